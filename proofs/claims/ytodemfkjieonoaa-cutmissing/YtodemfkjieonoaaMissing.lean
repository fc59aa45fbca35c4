/-
  What is missing comes in order, each frame once, of members alone, and none that is there; received one after the other it makes the union: the law CutMissing returns true for every input.
  No condition beyond the form's own.
-/
import Derived.Test.YtodemfkjieonoaaRows
import Derived.Test.YtodemfkjieonoaaCtF
import Derived.Test.YtodemfkjieonoaaCtT
import Derived.Test.YtodemfkjieonoaaCtN
import Derived.Test.YtodemfkjieonoaaIsR
import Derived.WalkKit
import Derived.ProofKit
import Derived.OpenShut
import Derived.ShutString
import Derived.SizedLaws
import Derived.ChangeOld
import Derived.Below
namespace Go.Proofs.Ytodemfkjieonoaa.cutMissing
open Go.Sort Go.ChangeShapes Go.WideShapes Go.ChangeAt Go.RowKit
open Go.ChangeMaps (open_string shut_string)
set_option linter.unusedVariables false
set_option maxRecDepth 10000

theorem own : ownKnob Try.prog.godebug = none := by kernel_rfl
theorem length_bytes (s : ByteArray) : s.data.toList.length = s.size := by rw [Array.length_toList]; rfl

theorem miss_at (most m : Nat → Nat) (n : Nat) (c : Nat → Nat) (p : Pl) (R : List Pl) (h : p :: R = missL most m (n + 1) c) : fstM c most m = some p ∧ R = missL most m n (putC c p.f.toNat p.r) := by
  cases hf : fstM c most m with
  | none => rw [missL_none _ _ _ _ hf] at h; cases h
  | some q =>
    rw [missL_some _ _ _ _ _ hf] at h
    injection h with h1 h2
    subst h1
    exact ⟨rfl, h2⟩
theorem li_blk {α : Type} {f : α → List Value} {B : Nat} {a : Option Addr} {L : List α} {w : World} (h : Li f B a L w) (hne : L ≠ []) : ∀ b o, a = some ⟨b, o, none⟩ → b < w.heap.size := by
  intro b o e
  rcases h with h | ⟨b', o', e', _, h, _⟩
  · exact absurd h hne
  · rw [e] at e'
    cases e'
    exact h
theorem and7 (d : Nat) (h : d < 8) : bits BinOp.and IntKind.i64 (d : Int) 7 = (d : Int) := by
  obtain rfl | rfl | rfl | rfl | rfl | rfl | rfl | rfl : d = 0 ∨ d = 1 ∨ d = 2 ∨ d = 3 ∨ d = 4 ∨ d = 5 ∨ d = 6 ∨ d = 7 := by omega
  all_goals decide
/- How far the received ones are. -/
def Got (a b m : Nat → Nat) (X : List Pl) (j : Nat) (c : Nat → Nat) : Prop :=
  X.drop j = missL b m (100 - j) c ∧ (∀ d, a d ≤ c d ∧ (c d = a d ∨ c d ≤ b d)) ∧ ∀ i q, j = i + 1 → X[i]? = some q → ∀ e ∈ lst m, c e < b e → befB q ⟨c e + 1, (e : Int), 0⟩ = true
theorem got_zero (a b m : Nat → Nat) : Got a b m (missL b m 100 a) 0 a := ⟨rfl, fun d => ⟨Nat.le_refl _, .inl rfl⟩, fun i q h => by omega⟩
theorem got_step (a b m : Nat → Nat) (X : List Pl) (j : Nat) (c : Nat → Nat) (p : Pl) (hX : X.length ≤ 100) (hp : X[j]? = some p) (h : Got a b m X j c) : ∃ d, d ∈ lst m ∧ d < 8 ∧ c d < b d ∧ p = ⟨c d + 1, (d : Int), 0⟩ ∧ Got a b m X (j + 1) (putC c d (c d + 1)) := by
  obtain ⟨h1, h2, h3⟩ := h
  obtain ⟨hj, hpe⟩ := List.getElem?_eq_some_iff.1 hp
  have hdr : X.drop j = p :: X.drop (j + 1) := by rw [← hpe]; exact List.drop_eq_getElem_cons hj
  rw [hdr, show 100 - j = (100 - (j + 1)) + 1 by omega] at h1
  obtain ⟨hf, h4⟩ := miss_at b m _ c p _ h1
  have hs := miss_step b m c p hf
  obtain ⟨d, hd, hd8, hlt, rfl, _⟩ := fstM_some c b m p hf
  refine ⟨d, hd, hd8, hlt, rfl, ?_⟩
  simp only [Int.toNat_natCast] at h4 hs
  refine ⟨h4, fun e => ?_, fun i q hi hq e he hc => ?_⟩
  · have := h2 e
    simp only [putC]
    split
    · rename_i x
      subst x
      omega
    · exact this
  · obtain rfl : i = j := by omega
    rw [hp] at hq
    cases hq
    exact hs e he hc
theorem got_end (a b m : Nat → Nat) (X : List Pl) (c : Nat → Nat) (hX : X.length < 100) (h : Got a b m X X.length c) (d : Nat) (hd : d < 8) (hm : m d ≠ 0) : c d = max (a d) (b d) := by
  obtain ⟨h1, h2, _⟩ := h
  have := h2 d
  rw [List.drop_length] at h1
  cases hf : fstM c b m with
  | none =>
    have := fstM_none c b m hf d ((mem_lst m d).2 ⟨hd, hm⟩)
    omega
  | some p =>
    rw [show 100 - X.length = (100 - X.length - 1) + 1 by omega, missL_some _ _ _ _ _ hf] at h1
    cases h1

set_option maxHeartbeats 16000000 in
theorem walk (a b m : Nat → Nat) (g : Pl) (ka : ∀ i, a i < 4294967296) (kb : ∀ i, b i < 4294967296) (kg : g.r < 4294967296) (w : World) : Calls Try.prog 5 #[.agg (cwc a b m g)] w fun e w' => e = .returned (.bool true) ∧ Below w.heap.size w w' := by
  have pM := missing_ok a b m kb
  have HK : Hid (∀ i, b i < 4294967296) := kb
  have e1 := missL_len b m 100 a
  have HG0 : Hid (Got a b m (missL b m 100 a) 0 a) := got_zero a b m
  unfold Placed at pM
  generalize missL b m 100 a = X at pM e1 HG0
  obtain ⟨n, hn⟩ : ∃ n, X.length = n := ⟨_, rfl⟩
  have HN : Hid (X.length = n ∧ X.length ≤ 100) := ⟨hn, e1⟩
  rw [hn] at pM e1
  clear hn ka kb kg
  have a0 := blk_new w (cwc a b m g) 30
  have hB : Below w.heap.size w (w.alloc (.cells (cwc a b m g) 30)) := below_box w _
  go_enter Try.func5, Try.ntmps5
  go_upto_region 1 with fail
  generalize w.alloc (Obj.cells (cwc a b m g) 30) = W at a0 hB ⊢
  go_wp2_with (first | refine load_part rfl 25 _ rfl (o := 0) a0 rfl (row8 a) (cw_a a b m g) Try.underlying25 rfl sizeCt ?_ | refine load_part rfl 25 _ rfl (o := 8) a0 rfl (row8 b) (cw_b a b m g) Try.underlying25 rfl sizeCt ?_ | refine load_part rfl 26 _ rfl (o := 16) a0 rfl (row8 m) (cw_m a b m g) Try.underlying26 rfl sizeMb ?_)
  refine (pM _).mono ?_
  rintro r w1 ⟨⟨la, lc, rfl, lcap, xS⟩, hb⟩
  replace xS := xS.mono (Nat.zero_le _)
  replace a0 := a0.below hb
  replace hB := hB.trans (hb.mono hB.size)
  clear hb
  clear pM lcap
  go_wp2_with fail
  refine (fixed_ok _).mono ?_
  rintro r w2 ⟨rfl, hb⟩
  replace a0 := a0.below hb
  replace xS := xS.below hb
  replace hB := hB.trans (hb.mono hB.size)
  clear hb
  have hn1 : ¬ (100 : Int) < (n : Int) := by omega
  have a4 := blk_new w2 (mbc a) 25
  have hv := a0.lt
  have hb := below_box w2 (.cells (mbc a) 25)
  have a0' := a0
  have XV : Hid (X ≠ [] → ∀ b' o', la = some ⟨b', o', none⟩ → b' < w2.heap.size) := fun hne b' o' e => li_blk xS hne b' o' e
  replace a0 := a0.below hb
  replace xS := xS.below hb
  replace hB := hB.trans (hb.mono hB.size)
  clear hb
  go_upto_region 5 with (first | refine load_part rfl 25 _ rfl (o := 0) a0' rfl (row8 a) (cw_a a b m g) Try.underlying25 rfl sizeCt ?_ | refine alloc_zero zeroCt rfl rfl ?_ | refine store_new rfl 25 _ _ rfl (cells := mbc a) rfl rfl sizeCt rfl (mbc_one _) ?_)
  try simp only [Act.put, List.setIfInBounds_toArray, List.set_cons_zero, List.set_cons_succ]
  generalize w2.alloc (Obj.cells (mbc a) 25) = W4 at a0 a4 xS hB ⊢
  generalize w2.heap.size = vs at a4 hv XV ⊢
  clear a0' hn1
  go_wp2_with fail
  go_loopw [5] (fun iv wr => ∃ (j : Nat) (c : Nat → Nat), j ≤ n ∧ iv = .int .i64 j ∧ Hid (Got a b m X j c) ∧ Blk w.heap.size (cwc a b m g) 30 wr ∧ Blk vs (mbc c) 25 wr ∧ Li Pl.vals 0 la X wr ∧ Below w.heap.size w wr) (fun iv _ => n - (intOf iv).toNat)
  case atStart => exact ⟨0, a, by omega, rfl, HG0, a0, a4, xS, hB⟩
  case round =>
    clear a0 a4 xS hB HG0
    obtain ⟨j, c, hj, rfl, hI, a0, a4, xS, hB⟩ := hrel
    by_cases hjn : j < n
    · have j0 : (j : Int) < (n : Int) := by omega
      have j1 : (0 : Int) ≤ (j : Int) := by omega
      obtain ⟨p, hp⟩ : ∃ p, X[j]? = some p := ⟨_, List.getElem?_eq_getElem (by rw [HN.out.1]; exact hjn)⟩
      obtain ⟨d, hdm, hd8, hlt, hpe, hG1⟩ := got_step a b m X j c p HN.out.2 hp hI.out
      obtain ⟨x, hx⟩ : ∃ x, c d + 1 = x := ⟨_, rfl⟩
      have HBQ : Hid (∀ i q, j = i + 1 → X[i]? = some q → befB q ⟨x, (d : Int), 0⟩ = true) := fun i q h1 h2 => by rw [← hx]; exact hI.out.2.2 i q h1 h2 d hdm hlt
      rw [hx] at hpe hG1
      subst hpe
      have HI' : Hid (Got a b m X (j + 1) (putC c d x)) := hG1
      have hset : (mbc c).setIfInBounds d (.int .u32 (x : Int)) = mbc (putC c d x) := mbc_set c d x hd8
      have d0 : (d : Int) < 8 := by omega
      have d1 : (0 : Int) ≤ (d : Int) := by omega
      have hand := and7 d hd8
      have hwr : IntKind.u32.wrap ((c d : Int) + 1) = (x : Int) := by have := HK.out d; rw [IntKind.wrap_u32]; omega
      have hgt : decide (b d < x) = false := by simp; omega
      have pIs := is_ok m (d : Int)
      rw [(isM_nat m d).2 hdm] at pIs
      obtain ⟨bb, oo, e0, _, hbl, hr⟩ := xS.at Pl.vals_length j _ hp
      have hbv := XV.out (by intro hh; rw [hh] at hp; simp at hp) bb oo e0
      subst e0
      have a6 := blk_new wr (Pl.mk x (d : Int) 0).arr 28
      have hb := below_box wr (.cells (Pl.mk x (d : Int) 0).arr 28)
      have hvv := a4.lt
      replace a0 := a0.below hb
      replace a4 := a4.below hb
      replace xS := xS.below hb
      replace hB := hB.trans (hb.mono hB.size)
      clear hb
      clear hG1 hx hdm hlt hI XV
      go_upto_region 9 with (first | refine load_range rfl 28 _ rfl (Pl.mk x (d : Int) 0).vals hr rfl Try.underlying28 rfl sizePl ?_ | refine alloc_zero zeroPl rfl rfl ?_ | refine store_new rfl 28 _ _ rfl (cells := (Pl.mk x (d : Int) 0).arr) rfl rfl sizePl rfl (Pl.arr_one _) ?_)
      try simp only [Act.put, List.setIfInBounds_toArray, List.set_cons_zero, List.set_cons_succ]
      clear hr hbl
      generalize wr.alloc (Obj.cells (Pl.mk x (d : Int) 0).arr 28) = V at a0 a4 xS a6 hB ⊢
      generalize wr.heap.size = v6 at a6 hvv ⊢
      rcases Nat.eq_zero_or_pos j with hj0 | hj0
      · have t0 : decide (0 < j) = false := by simp; omega
        have t1 : decide ((0 : Int) < (j : Int)) = false := by simp; omega
        clear hp hj0 HBQ
        go_upto_region 9 with fail
        try simp only [Act.put, List.setIfInBounds_toArray, List.set_cons_zero, List.set_cons_succ]
        have lm : ∀ w', (∃ p : Regrown, w' = grow (redrawn V p.d) p.os) → w'.rangeAt w.heap.size 16 (row8 m) := fun w' h => (a0.regrown w' h).range 16 (row8 m) (cw_m a b m g)
        have l6 := a6.regrown
        have q1 : ∀ d' os, (grow (redrawn V d') os).cell? ⟨v6, 1, none⟩ = some (.int .i64 (d : Int)) := cell_regrown (a6.cell 1 _ rfl)
        have q2 : ∀ d' os, (grow (redrawn V d') os).cell? ⟨v6, 2, none⟩ = some (.int .i64 0) := cell_regrown (a6.cell 2 _ rfl)
        have r1 : ∀ d' os, Calls Try.prog 18 #[.agg (row8 m).toArray, .int .i64 (d : Int)] (grow (redrawn V d') os) fun e w'' => e = .returned (.bool true) ∧ ∃ p : Regrown, w'' = grow (redrawn V p.d) p.os := fun d' os => Calls.regrown_of (pIs _)
        refine wp_region_quiet_below (by kernel_rfl) (by kernel_rfl) ?_
        repeat (first
          | (go_big_quiet_want; refine quiet_range (off := 16) rfl rfl lm Try.underlying26 rfl sizeMb ?_; simp only [Act.put, List.setIfInBounds_toArray, List.set_cons_zero, List.set_cons_succ]; go_big_quiet_on)
          | (go_big_quiet_want; refine quiet_load rfl rfl l6 Try.underlying28 rfl sizePl ?_; simp only [Act.put, List.setIfInBounds_toArray, List.set_cons_zero, List.set_cons_succ]; go_big_quiet_on)
          | go_big_quiet_step (first | with_reducible exact r1 _ _))
        refine wpQuiet_nil ?_
        intro _ hw'
        obtain ⟨⟨dq, osq⟩, hw''⟩ := hw'
        have hb := below_regrown V dq osq
        subst hw''
        generalize grow (redrawn V dq) osq = w2 at hb ⊢
        replace a0 := a0.below hb
        replace a4 := a4.below hb
        replace a6 := a6.below hb
        replace xS := xS.below hb
        replace hB := hB.trans (hb.mono hB.size)
        clear hb
        clear r1 lm l6 q1 q2
        go_upto_region 11 with fail
        try simp only [Act.put, List.setIfInBounds_toArray, List.set_cons_zero, List.set_cons_succ]
        have q0 : ∀ d' os, (grow (redrawn w2 d') os).cell? ⟨v6, 0, none⟩ = some (.int .u32 (x : Int)) := cell_regrown (a6.cell 0 _ rfl)
        have q1 : ∀ d' os, (grow (redrawn w2 d') os).cell? ⟨v6, 1, none⟩ = some (.int .i64 (d : Int)) := cell_regrown (a6.cell 1 _ rfl)
        have q2 : ∀ d' os, (grow (redrawn w2 d') os).cell? ⟨vs, d, none⟩ = some (.int .u32 (c d : Int)) := cell_regrown (a4.cell d _ (mbc_get c d hd8))
        have q3 : ∀ d' os, (grow (redrawn w2 d') os).cell? ⟨w.heap.size, 8 + d, none⟩ = some (.int .u32 (b d : Int)) := cell_regrown (a0.cell (8 + d) _ (cw_getb a b m g d hd8))
        refine wp_region_quiet_below (by kernel_rfl) (by kernel_rfl) ?_
        repeat (first
          | go_big_quiet_step (fail))
        refine wpQuiet_nil ?_
        intro _ hw'
        obtain ⟨⟨dq, osq⟩, hw''⟩ := hw'
        have hb := below_regrown w2 dq osq
        subst hw''
        generalize grow (redrawn w2 dq) osq = w3 at hb ⊢
        replace a0 := a0.below hb
        replace a4 := a4.below hb
        replace a6 := a6.below hb
        replace xS := xS.below hb
        replace hB := hB.trans (hb.mono hB.size)
        clear hb
        clear q0 q1 q2 q3
        have c0 := a6.cell 0 (.int .u32 (x : Int)) rfl
        have c1 := a6.cell 1 (.int .i64 (d : Int)) rfl
        go_wp2_with (refine store_one rfl 23 _ _ rfl (off := d) (.int .u32 (x : Int)) a4 rfl rfl rfl rfl sizeU32 (by rw [mbc_size]; omega) ?_; intro w9 b9 k9; rw [hset] at b9; have z0 := a0.kp1 k9 (by omega); have zS := xS.kept k9 (fun b' o' e => by cases e; simp; omega); have zB : Below w.heap.size w w9 := hB.trans (k9.below1 (by omega) hB.size))
        exact ⟨⟨j + 1, putC c d x, by omega, by go_num, HI', z0, b9, zS, zB⟩, by simp [intOf]; omega⟩
      · obtain ⟨i, hi⟩ : ∃ i, j = i + 1 := ⟨j - 1, by omega⟩
        obtain ⟨q, hq⟩ : ∃ q, X[i]? = some q := ⟨_, List.getElem?_eq_getElem (by rw [HN.out.1]; omega)⟩
        have pBf := rbef_ok q ⟨x, (d : Int), 0⟩
        rw [HBQ.out i q hi hq] at pBf
        obtain ⟨bb', oo', e0, _, hbl, hrq⟩ := xS.at Pl.vals_length i q hq
        injection e0 with e0
        injection e0 with e1' e2' e3'
        subst e1' e2'
        have t0 : decide (0 < j) = true := by simp; omega
        have t1 : decide ((0 : Int) < (j : Int)) = true := by simp; omega
        have t2 : IntKind.i64.wrap ((j : Int) - 1) = (i : Int) := by rw [IntKind.wrap_i64]; omega
        have i0 : (i : Int) < (n : Int) := by omega
        have i1 : (0 : Int) ≤ (i : Int) := by omega
        clear hp hj0 HBQ hq hi
        go_upto_region 9 with fail
        try simp only [Act.put, List.setIfInBounds_toArray, List.set_cons_zero, List.set_cons_succ]
        have lm : ∀ w', (∃ p : Regrown, w' = grow (redrawn V p.d) p.os) → w'.rangeAt w.heap.size 16 (row8 m) := fun w' h => (a0.regrown w' h).range 16 (row8 m) (cw_m a b m g)
        have l6 := a6.regrown
        have q1 : ∀ d' os, (grow (redrawn V d') os).cell? ⟨v6, 1, none⟩ = some (.int .i64 (d : Int)) := cell_regrown (a6.cell 1 _ rfl)
        have q2 : ∀ d' os, (grow (redrawn V d') os).cell? ⟨v6, 2, none⟩ = some (.int .i64 0) := cell_regrown (a6.cell 2 _ rfl)
        have r1 : ∀ d' os, Calls Try.prog 18 #[.agg (row8 m).toArray, .int .i64 (d : Int)] (grow (redrawn V d') os) fun e w'' => e = .returned (.bool true) ∧ ∃ p : Regrown, w'' = grow (redrawn V p.d) p.os := fun d' os => Calls.regrown_of (pIs _)
        have lq : ∀ w', (∃ p : Regrown, w' = grow (redrawn V p.d) p.os) → w'.rangeAt bb (oo + i * 3) q.vals := fun w' ⟨p, e⟩ => e ▸ range_block hrq ((below_regrown V p.d p.os).block bb hbl)
        have r2 : ∀ d' os, Calls Try.prog 19 #[.agg q.vals.toArray, .agg (Pl.mk x (d : Int) 0).arr] (grow (redrawn V d') os) fun e w'' => e = .returned (.bool true) ∧ ∃ p : Regrown, w'' = grow (redrawn V p.d) p.os := fun d' os => Calls.regrown_of (pBf _)
        refine wp_region_quiet_below (by kernel_rfl) (by kernel_rfl) ?_
        repeat (first
          | (go_big_quiet_want; refine quiet_range (off := oo + i * 3) rfl rfl lq Try.underlying28 rfl sizePl ?_; simp only [Act.put, List.setIfInBounds_toArray, List.set_cons_zero, List.set_cons_succ]; go_big_quiet_on)
          | (go_big_quiet_want; refine quiet_range (off := 16) rfl rfl lm Try.underlying26 rfl sizeMb ?_; simp only [Act.put, List.setIfInBounds_toArray, List.set_cons_zero, List.set_cons_succ]; go_big_quiet_on)
          | (go_big_quiet_want; refine quiet_load rfl rfl l6 Try.underlying28 rfl sizePl ?_; simp only [Act.put, List.setIfInBounds_toArray, List.set_cons_zero, List.set_cons_succ]; go_big_quiet_on)
          | go_big_quiet_step (first | with_reducible exact r1 _ _ | with_reducible exact r2 _ _))
        refine wpQuiet_nil ?_
        intro _ hw'
        obtain ⟨⟨dq, osq⟩, hw''⟩ := hw'
        have hb := below_regrown V dq osq
        subst hw''
        generalize grow (redrawn V dq) osq = w2 at hb ⊢
        replace a0 := a0.below hb
        replace a4 := a4.below hb
        replace a6 := a6.below hb
        replace xS := xS.below hb
        replace hB := hB.trans (hb.mono hB.size)
        clear hb
        clear r1 lm l6 q1 q2 r2 lq
        go_upto_region 11 with fail
        try simp only [Act.put, List.setIfInBounds_toArray, List.set_cons_zero, List.set_cons_succ]
        have q0 : ∀ d' os, (grow (redrawn w2 d') os).cell? ⟨v6, 0, none⟩ = some (.int .u32 (x : Int)) := cell_regrown (a6.cell 0 _ rfl)
        have q1 : ∀ d' os, (grow (redrawn w2 d') os).cell? ⟨v6, 1, none⟩ = some (.int .i64 (d : Int)) := cell_regrown (a6.cell 1 _ rfl)
        have q2 : ∀ d' os, (grow (redrawn w2 d') os).cell? ⟨vs, d, none⟩ = some (.int .u32 (c d : Int)) := cell_regrown (a4.cell d _ (mbc_get c d hd8))
        have q3 : ∀ d' os, (grow (redrawn w2 d') os).cell? ⟨w.heap.size, 8 + d, none⟩ = some (.int .u32 (b d : Int)) := cell_regrown (a0.cell (8 + d) _ (cw_getb a b m g d hd8))
        refine wp_region_quiet_below (by kernel_rfl) (by kernel_rfl) ?_
        repeat (first
          | go_big_quiet_step (fail))
        refine wpQuiet_nil ?_
        intro _ hw'
        obtain ⟨⟨dq, osq⟩, hw''⟩ := hw'
        have hb := below_regrown w2 dq osq
        subst hw''
        generalize grow (redrawn w2 dq) osq = w3 at hb ⊢
        replace a0 := a0.below hb
        replace a4 := a4.below hb
        replace a6 := a6.below hb
        replace xS := xS.below hb
        replace hB := hB.trans (hb.mono hB.size)
        clear hb
        clear q0 q1 q2 q3
        have c0 := a6.cell 0 (.int .u32 (x : Int)) rfl
        have c1 := a6.cell 1 (.int .i64 (d : Int)) rfl
        go_wp2_with (refine store_one rfl 23 _ _ rfl (off := d) (.int .u32 (x : Int)) a4 rfl rfl rfl rfl sizeU32 (by rw [mbc_size]; omega) ?_; intro w9 b9 k9; rw [hset] at b9; have z0 := a0.kp1 k9 (by omega); have zS := xS.kept k9 (fun b' o' e => by cases e; simp; omega); have zB : Below w.heap.size w w9 := hB.trans (k9.below1 (by omega) hB.size))
        exact ⟨⟨j + 1, putC c d x, by omega, by go_num, HI', z0, b9, zS, zB⟩, by simp [intOf]; omega⟩
    · obtain rfl : j = n := by omega
      by_cases hn100 : j = 100
      · have hbe : ((j : Int) == 100) = true := by simp; omega
        clear hI XV
        go_wp2_with fail
        go_ret
        exact ⟨rfl, hB⟩
      · have hbe : ((j : Int) == 100) = false := by rw [beq_eq_false_iff_ne]; omega
        have HE : Hid (∀ d, d < 8 → m d ≠ 0 → c d = max (a d) (b d)) := got_end a b m X c (by have := HN.out.1; omega) (by have h := hI.out; rw [← HN.out.1] at h; exact h)
        clear hI XV xS
        go_wp2_with fail
        clear hbe
        go_loopw [7] (fun iv wr => ∃ i : Nat, i ≤ 8 ∧ iv = .int .i64 i ∧ Blk w.heap.size (cwc a b m g) 30 wr ∧ Blk vs (mbc c) 25 wr ∧ Below w.heap.size w wr) (fun iv _ => 8 - (intOf iv).toNat)
        case atStart => exact ⟨0, by omega, rfl, a0, a4, hB⟩
        case round =>
          clear a0 a4 hB
          obtain ⟨i, hi, rfl, a0, a4, hB⟩ := hrel
          by_cases hi8 : i < 8
          · have i0 : (i : Int) < 8 := by omega
            have i1 : (0 : Int) ≤ (i : Int) := by omega
            by_cases hm : m i = 0
            · have hm' : ((m i : Int) != 0) = false := by simp; omega
              clear hm
              have hC0 : Below w.heap.size w wr.drew := hB.drew
              clear hB
              go_upto_region 19 with fail
              try simp only [Act.put, List.setIfInBounds_toArray, List.set_cons_zero, List.set_cons_succ]
              refine wp_region_held_drew (S := fun w' => Blk w.heap.size (cwc a b m g) 30 w' ∧ Blk vs (mbc c) 25 w') (by kernel_rfl) ⟨a0.drew, a4.drew⟩ (fun hHeld => ?_)
              refine wpAnyH_take (i := 0) (v := ?v1) rfl (by kernel_rfl) (by kernel_rfl) (by kernel_rfl) (fun _ _ _ h => h) (Or.inl ⟨by rfl, ?hy1⟩) hHeld ?rest1
              case hy1 => (intro w hSw; clear hSw; go_simp; try with_reducible rfl)
              try simp only [List.getElem_toArray]
              try simp only [List.getElem_cons_succ]
              try simp only [List.getElem_cons_zero]
              try simp only [Act.put]
              try simp only [List.setIfInBounds_toArray]
              try simp only [List.set_cons_succ]
              try simp only [List.set_cons_zero]
              refine wpAnyH_take (i := 1) (v := ?v2) rfl (by kernel_rfl) (by kernel_rfl) (by kernel_rfl) (fun _ _ _ h => h) (Or.inl ⟨by rfl, ?hy2⟩) hHeld ?rest2
              case hy2 => (intro w hSw; clear hSw; go_simp; try with_reducible rfl)
              try simp only [List.getElem_toArray]
              try simp only [List.getElem_cons_succ]
              try simp only [List.getElem_cons_zero]
              try simp only [Act.put]
              try simp only [List.setIfInBounds_toArray]
              try simp only [List.set_cons_succ]
              try simp only [List.set_cons_zero]
              refine wpAnyH_take (i := 2) (v := ?v3) rfl (by kernel_rfl) (by kernel_rfl) (by kernel_rfl) (fun _ _ _ h => h) (Or.inl ⟨by rfl, ?hy3⟩) hHeld ?rest3
              case hy3 => (intro w hSw; clear hSw; go_simp; try with_reducible rfl)
              try simp only [List.getElem_toArray]
              try simp only [List.getElem_cons_succ]
              try simp only [List.getElem_cons_zero]
              try simp only [Act.put]
              try simp only [List.setIfInBounds_toArray]
              try simp only [List.set_cons_succ]
              try simp only [List.set_cons_zero]
              refine wpAnyH_take (i := 3) (v := ?v4) rfl (by kernel_rfl) (by kernel_rfl) (by kernel_rfl) (fun _ _ _ h => h) (Or.inl ⟨by rfl, ?hy4⟩) hHeld ?rest4
              case hy4 => (intro w hSw; have hc := hSw.1.cell (16 + i) _ (cw_getm a b m g i hi8); clear hSw; go_simp; try with_reducible rfl)
              try simp only [List.getElem_toArray]
              try simp only [List.getElem_cons_succ]
              try simp only [List.getElem_cons_zero]
              try simp only [Act.put]
              try simp only [List.setIfInBounds_toArray]
              try simp only [List.set_cons_succ]
              try simp only [List.set_cons_zero]
              refine wpAnyH_take (i := 4) (v := ?v5) rfl (by kernel_rfl) (by kernel_rfl) (by kernel_rfl) (fun _ _ _ h => h) (Or.inl ⟨by rfl, ?hy5⟩) hHeld ?rest5
              case hy5 => (intro w hSw; clear hSw; go_simp; try with_reducible rfl)
              try simp only [List.getElem_toArray]
              try simp only [List.getElem_cons_succ]
              try simp only [List.getElem_cons_zero]
              try simp only [Act.put]
              try simp only [List.setIfInBounds_toArray]
              try simp only [List.set_cons_succ]
              try simp only [List.set_cons_zero]
              refine wpAnyH_take (i := 5) (v := ?v6) rfl (by kernel_rfl) (by kernel_rfl) (by kernel_rfl) (fun _ _ _ h => h) (Or.inl ⟨by rfl, ?hy6⟩) hHeld ?rest6
              case hy6 => (intro w hSw; clear hSw; go_simp; try with_reducible rfl)
              try simp only [List.getElem_toArray]
              try simp only [List.getElem_cons_succ]
              try simp only [List.getElem_cons_zero]
              try simp only [Act.put]
              try simp only [List.setIfInBounds_toArray]
              try simp only [List.set_cons_succ]
              try simp only [List.set_cons_zero]
              refine wpAnyH_take (i := 6) (v := undef) rfl (by kernel_rfl) (by kernel_rfl) (by kernel_rfl) (fun _ _ _ h => h) (Or.inr ⟨by rfl, rfl⟩) hHeld ?rest7
              try simp only [List.getElem_toArray]
              try simp only [List.getElem_cons_succ]
              try simp only [List.getElem_cons_zero]
              try simp only [Act.put]
              try simp only [List.setIfInBounds_toArray]
              try simp only [List.set_cons_succ]
              try simp only [List.set_cons_zero]
              refine wpAnyH_take (i := 7) (v := undef) rfl (by kernel_rfl) (by kernel_rfl) (by kernel_rfl) (fun _ _ _ h => h) (Or.inr ⟨by rfl, rfl⟩) hHeld ?rest8
              try simp only [List.getElem_toArray]
              try simp only [List.getElem_cons_succ]
              try simp only [List.getElem_cons_zero]
              try simp only [Act.put]
              try simp only [List.setIfInBounds_toArray]
              try simp only [List.set_cons_succ]
              try simp only [List.set_cons_zero]
              refine wpAnyH_take (i := 8) (v := undef) rfl (by kernel_rfl) (by kernel_rfl) (by kernel_rfl) (fun _ _ _ h => h) (Or.inr ⟨by rfl, rfl⟩) hHeld ?rest9
              try simp only [List.getElem_toArray]
              try simp only [List.getElem_cons_succ]
              try simp only [List.getElem_cons_zero]
              try simp only [Act.put]
              try simp only [List.setIfInBounds_toArray]
              try simp only [List.set_cons_succ]
              try simp only [List.set_cons_zero]
              refine wpAnyH_take (i := 9) (v := undef) rfl (by kernel_rfl) (by kernel_rfl) (by kernel_rfl) (fun _ _ _ h => h) (Or.inr ⟨by rfl, rfl⟩) hHeld ?rest10
              try simp only [List.getElem_toArray]
              try simp only [List.getElem_cons_succ]
              try simp only [List.getElem_cons_zero]
              try simp only [Act.put]
              try simp only [List.setIfInBounds_toArray]
              try simp only [List.set_cons_succ]
              try simp only [List.set_cons_zero]
              refine wpAnyH_take (i := 10) (v := undef) rfl (by kernel_rfl) (by kernel_rfl) (by kernel_rfl) (fun _ _ _ h => h) (Or.inr ⟨by rfl, rfl⟩) hHeld ?rest11
              try simp only [List.getElem_toArray]
              try simp only [List.getElem_cons_succ]
              try simp only [List.getElem_cons_zero]
              try simp only [Act.put]
              try simp only [List.setIfInBounds_toArray]
              try simp only [List.set_cons_succ]
              try simp only [List.set_cons_zero]
              refine wpAnyH_take (i := 11) (v := undef) rfl (by kernel_rfl) (by kernel_rfl) (by kernel_rfl) (fun _ _ _ h => h) (Or.inr ⟨by rfl, rfl⟩) hHeld ?rest12
              try simp only [List.getElem_toArray]
              try simp only [List.getElem_cons_succ]
              try simp only [List.getElem_cons_zero]
              try simp only [Act.put]
              try simp only [List.setIfInBounds_toArray]
              try simp only [List.set_cons_succ]
              try simp only [List.set_cons_zero]
              refine wpAnyH_take (i := 12) (v := undef) rfl (by kernel_rfl) (by kernel_rfl) (by kernel_rfl) (fun _ _ _ h => h) (Or.inr ⟨by rfl, rfl⟩) hHeld ?rest13
              try simp only [List.getElem_toArray]
              try simp only [List.getElem_cons_succ]
              try simp only [List.getElem_cons_zero]
              try simp only [Act.put]
              try simp only [List.setIfInBounds_toArray]
              try simp only [List.set_cons_succ]
              try simp only [List.set_cons_zero]
              refine wpAnyH_take (i := 13) (v := undef) rfl (by kernel_rfl) (by kernel_rfl) (by kernel_rfl) (fun _ _ _ h => h) (Or.inr ⟨by rfl, rfl⟩) hHeld ?rest14
              try simp only [List.getElem_toArray]
              try simp only [List.getElem_cons_succ]
              try simp only [List.getElem_cons_zero]
              try simp only [Act.put]
              try simp only [List.setIfInBounds_toArray]
              try simp only [List.set_cons_succ]
              try simp only [List.set_cons_zero]
              refine wpAnyH_take (i := 14) (v := undef) rfl (by kernel_rfl) (by kernel_rfl) (by kernel_rfl) (fun _ _ _ h => h) (Or.inr ⟨by rfl, rfl⟩) hHeld ?rest15
              try simp only [List.getElem_toArray]
              try simp only [List.getElem_cons_succ]
              try simp only [List.getElem_cons_zero]
              try simp only [Act.put]
              try simp only [List.setIfInBounds_toArray]
              try simp only [List.set_cons_succ]
              try simp only [List.set_cons_zero]
              refine wpAnyH_take (i := 15) (v := undef) rfl (by kernel_rfl) (by kernel_rfl) (by kernel_rfl) (fun _ _ _ h => h) (Or.inr ⟨by rfl, rfl⟩) hHeld ?rest16
              try simp only [List.getElem_toArray]
              try simp only [List.getElem_cons_succ]
              try simp only [List.getElem_cons_zero]
              try simp only [Act.put]
              try simp only [List.setIfInBounds_toArray]
              try simp only [List.set_cons_succ]
              try simp only [List.set_cons_zero]
              refine wpAnyH_take (i := 16) (v := undef) rfl (by kernel_rfl) (by kernel_rfl) (by kernel_rfl) (fun _ _ _ h => h) (Or.inr ⟨by rfl, rfl⟩) hHeld ?rest17
              try simp only [List.getElem_toArray]
              try simp only [List.getElem_cons_succ]
              try simp only [List.getElem_cons_zero]
              try simp only [Act.put]
              try simp only [List.setIfInBounds_toArray]
              try simp only [List.set_cons_succ]
              try simp only [List.set_cons_zero]
              refine wpAnyH_take (i := 17) (v := undef) rfl (by kernel_rfl) (by kernel_rfl) (by kernel_rfl) (fun _ _ _ h => h) (Or.inr ⟨by rfl, rfl⟩) hHeld ?rest18
              try simp only [List.getElem_toArray]
              try simp only [List.getElem_cons_succ]
              try simp only [List.getElem_cons_zero]
              try simp only [Act.put]
              try simp only [List.setIfInBounds_toArray]
              try simp only [List.set_cons_succ]
              try simp only [List.set_cons_zero]
              refine wpAnyH_take (i := 18) (v := undef) rfl (by kernel_rfl) (by kernel_rfl) (by kernel_rfl) (fun _ _ _ h => h) (Or.inr ⟨by rfl, rfl⟩) hHeld ?rest19
              try simp only [List.getElem_toArray]
              try simp only [List.getElem_cons_succ]
              try simp only [List.getElem_cons_zero]
              try simp only [Act.put]
              try simp only [List.setIfInBounds_toArray]
              try simp only [List.set_cons_succ]
              try simp only [List.set_cons_zero]
              refine wpAnyH_take (i := 19) (v := ?v20) rfl (by kernel_rfl) (by kernel_rfl) (by kernel_rfl) (fun _ _ _ h => h) (Or.inl ⟨by rfl, ?hy20⟩) hHeld ?rest20
              case hy20 => (intro w hSw; clear hSw; go_simp; try with_reducible rfl)
              try simp only [List.getElem_toArray]
              try simp only [List.getElem_cons_succ]
              try simp only [List.getElem_cons_zero]
              try simp only [Act.put]
              try simp only [List.setIfInBounds_toArray]
              try simp only [List.set_cons_succ]
              try simp only [List.set_cons_zero]
              refine wpAnyH_done (by kernel_rfl) ?_ _
              go_wp2_with fail
              exact ⟨⟨i + 1, by omega, by go_num, hHeld.1, hHeld.2, hC0⟩, by simp [intOf]; omega⟩
            · have hm' : ((m i : Int) != 0) = true := by rw [bne_iff_ne]; omega
              have hcm := HE.out i hi8 hm
              clear hm
              by_cases h1 : a i < b i
              · have HcD : Hid (c i = b i) := by rw [hcm]; exact Nat.max_eq_right (by omega)
                have h2 : ¬ b i < a i := by omega
                have h3 : a i ≤ b i := by omega
                clear hcm
                have hC0 : Below w.heap.size w wr.drew := hB.drew
                clear hB
                go_upto_region 19 with fail
                try simp only [Act.put, List.setIfInBounds_toArray, List.set_cons_zero, List.set_cons_succ]
                refine wp_region_held_drew (S := fun w' => Blk w.heap.size (cwc a b m g) 30 w' ∧ Blk vs (mbc c) 25 w') (by kernel_rfl) ⟨a0.drew, a4.drew⟩ (fun hHeld => ?_)
                refine wpAnyH_take (i := 0) (v := ?v21) rfl (by kernel_rfl) (by kernel_rfl) (by kernel_rfl) (fun _ _ _ h => h) (Or.inl ⟨by rfl, ?hy21⟩) hHeld ?rest21
                case hy21 => (intro w hSw; clear hSw; go_simp; try with_reducible rfl)
                try simp only [List.getElem_toArray]
                try simp only [List.getElem_cons_succ]
                try simp only [List.getElem_cons_zero]
                try simp only [Act.put]
                try simp only [List.setIfInBounds_toArray]
                try simp only [List.set_cons_succ]
                try simp only [List.set_cons_zero]
                refine wpAnyH_take (i := 1) (v := ?v22) rfl (by kernel_rfl) (by kernel_rfl) (by kernel_rfl) (fun _ _ _ h => h) (Or.inl ⟨by rfl, ?hy22⟩) hHeld ?rest22
                case hy22 => (intro w hSw; clear hSw; go_simp; try with_reducible rfl)
                try simp only [List.getElem_toArray]
                try simp only [List.getElem_cons_succ]
                try simp only [List.getElem_cons_zero]
                try simp only [Act.put]
                try simp only [List.setIfInBounds_toArray]
                try simp only [List.set_cons_succ]
                try simp only [List.set_cons_zero]
                refine wpAnyH_take (i := 2) (v := ?v23) rfl (by kernel_rfl) (by kernel_rfl) (by kernel_rfl) (fun _ _ _ h => h) (Or.inl ⟨by rfl, ?hy23⟩) hHeld ?rest23
                case hy23 => (intro w hSw; clear hSw; go_simp; try with_reducible rfl)
                try simp only [List.getElem_toArray]
                try simp only [List.getElem_cons_succ]
                try simp only [List.getElem_cons_zero]
                try simp only [Act.put]
                try simp only [List.setIfInBounds_toArray]
                try simp only [List.set_cons_succ]
                try simp only [List.set_cons_zero]
                refine wpAnyH_take (i := 3) (v := ?v24) rfl (by kernel_rfl) (by kernel_rfl) (by kernel_rfl) (fun _ _ _ h => h) (Or.inl ⟨by rfl, ?hy24⟩) hHeld ?rest24
                case hy24 => (intro w hSw; have hc := hSw.1.cell (16 + i) _ (cw_getm a b m g i hi8); clear hSw; go_simp; try with_reducible rfl)
                try simp only [List.getElem_toArray]
                try simp only [List.getElem_cons_succ]
                try simp only [List.getElem_cons_zero]
                try simp only [Act.put]
                try simp only [List.setIfInBounds_toArray]
                try simp only [List.set_cons_succ]
                try simp only [List.set_cons_zero]
                refine wpAnyH_take (i := 4) (v := ?v25) rfl (by kernel_rfl) (by kernel_rfl) (by kernel_rfl) (fun _ _ _ h => h) (Or.inl ⟨by rfl, ?hy25⟩) hHeld ?rest25
                case hy25 => (intro w hSw; clear hSw; go_simp; try with_reducible rfl)
                try simp only [List.getElem_toArray]
                try simp only [List.getElem_cons_succ]
                try simp only [List.getElem_cons_zero]
                try simp only [Act.put]
                try simp only [List.setIfInBounds_toArray]
                try simp only [List.set_cons_succ]
                try simp only [List.set_cons_zero]
                refine wpAnyH_take (i := 5) (v := ?v26) rfl (by kernel_rfl) (by kernel_rfl) (by kernel_rfl) (fun _ _ _ h => h) (Or.inl ⟨by rfl, ?hy26⟩) hHeld ?rest26
                case hy26 => (intro w hSw; clear hSw; go_simp; try with_reducible rfl)
                try simp only [List.getElem_toArray]
                try simp only [List.getElem_cons_succ]
                try simp only [List.getElem_cons_zero]
                try simp only [Act.put]
                try simp only [List.setIfInBounds_toArray]
                try simp only [List.set_cons_succ]
                try simp only [List.set_cons_zero]
                refine wpAnyH_take (i := 6) (v := ?v27) rfl (by kernel_rfl) (by kernel_rfl) (by kernel_rfl) (fun _ _ _ h => h) (Or.inl ⟨by rfl, ?hy27⟩) hHeld ?rest27
                case hy27 => (intro w hSw; clear hSw; go_simp; try with_reducible rfl)
                try simp only [List.getElem_toArray]
                try simp only [List.getElem_cons_succ]
                try simp only [List.getElem_cons_zero]
                try simp only [Act.put]
                try simp only [List.setIfInBounds_toArray]
                try simp only [List.set_cons_succ]
                try simp only [List.set_cons_zero]
                refine wpAnyH_take (i := 7) (v := ?v28) rfl (by kernel_rfl) (by kernel_rfl) (by kernel_rfl) (fun _ _ _ h => h) (Or.inl ⟨by rfl, ?hy28⟩) hHeld ?rest28
                case hy28 => (intro w hSw; clear hSw; go_simp; try with_reducible rfl)
                try simp only [List.getElem_toArray]
                try simp only [List.getElem_cons_succ]
                try simp only [List.getElem_cons_zero]
                try simp only [Act.put]
                try simp only [List.setIfInBounds_toArray]
                try simp only [List.set_cons_succ]
                try simp only [List.set_cons_zero]
                refine wpAnyH_take (i := 8) (v := ?v29) rfl (by kernel_rfl) (by kernel_rfl) (by kernel_rfl) (fun _ _ _ h => h) (Or.inl ⟨by rfl, ?hy29⟩) hHeld ?rest29
                case hy29 => (intro w hSw; have hc := hSw.2.cell i _ (mbc_get c i hi8); rw [HcD.out] at hc; clear hSw; go_simp; try with_reducible rfl)
                try simp only [List.getElem_toArray]
                try simp only [List.getElem_cons_succ]
                try simp only [List.getElem_cons_zero]
                try simp only [Act.put]
                try simp only [List.setIfInBounds_toArray]
                try simp only [List.set_cons_succ]
                try simp only [List.set_cons_zero]
                refine wpAnyH_take (i := 9) (v := ?v30) rfl (by kernel_rfl) (by kernel_rfl) (by kernel_rfl) (fun _ _ _ h => h) (Or.inl ⟨by rfl, ?hy30⟩) hHeld ?rest30
                case hy30 => (intro w hSw; clear hSw; go_simp; try with_reducible rfl)
                try simp only [List.getElem_toArray]
                try simp only [List.getElem_cons_succ]
                try simp only [List.getElem_cons_zero]
                try simp only [Act.put]
                try simp only [List.setIfInBounds_toArray]
                try simp only [List.set_cons_succ]
                try simp only [List.set_cons_zero]
                refine wpAnyH_take (i := 10) (v := ?v31) rfl (by kernel_rfl) (by kernel_rfl) (by kernel_rfl) (fun _ _ _ h => h) (Or.inl ⟨by rfl, ?hy31⟩) hHeld ?rest31
                case hy31 => (intro w hSw; clear hSw; go_simp; try with_reducible rfl)
                try simp only [List.getElem_toArray]
                try simp only [List.getElem_cons_succ]
                try simp only [List.getElem_cons_zero]
                try simp only [Act.put]
                try simp only [List.setIfInBounds_toArray]
                try simp only [List.set_cons_succ]
                try simp only [List.set_cons_zero]
                refine wpAnyH_take (i := 11) (v := ?v32) rfl (by kernel_rfl) (by kernel_rfl) (by kernel_rfl) (fun _ _ _ h => h) (Or.inl ⟨by rfl, ?hy32⟩) hHeld ?rest32
                case hy32 => (intro w hSw; clear hSw; go_simp; try with_reducible rfl)
                try simp only [List.getElem_toArray]
                try simp only [List.getElem_cons_succ]
                try simp only [List.getElem_cons_zero]
                try simp only [Act.put]
                try simp only [List.setIfInBounds_toArray]
                try simp only [List.set_cons_succ]
                try simp only [List.set_cons_zero]
                refine wpAnyH_take (i := 12) (v := ?v33) rfl (by kernel_rfl) (by kernel_rfl) (by kernel_rfl) (fun _ _ _ h => h) (Or.inl ⟨by rfl, ?hy33⟩) hHeld ?rest33
                case hy33 => (intro w hSw; have hc := hSw.1.cell i _ (cw_geta a b m g i hi8); clear hSw; go_simp; try with_reducible rfl)
                try simp only [List.getElem_toArray]
                try simp only [List.getElem_cons_succ]
                try simp only [List.getElem_cons_zero]
                try simp only [Act.put]
                try simp only [List.setIfInBounds_toArray]
                try simp only [List.set_cons_succ]
                try simp only [List.set_cons_zero]
                refine wpAnyH_take (i := 13) (v := ?v34) rfl (by kernel_rfl) (by kernel_rfl) (by kernel_rfl) (fun _ _ _ h => h) (Or.inl ⟨by rfl, ?hy34⟩) hHeld ?rest34
                case hy34 => (intro w hSw; clear hSw; go_simp; try with_reducible rfl)
                try simp only [List.getElem_toArray]
                try simp only [List.getElem_cons_succ]
                try simp only [List.getElem_cons_zero]
                try simp only [Act.put]
                try simp only [List.setIfInBounds_toArray]
                try simp only [List.set_cons_succ]
                try simp only [List.set_cons_zero]
                refine wpAnyH_take (i := 14) (v := ?v35) rfl (by kernel_rfl) (by kernel_rfl) (by kernel_rfl) (fun _ _ _ h => h) (Or.inl ⟨by rfl, ?hy35⟩) hHeld ?rest35
                case hy35 => (intro w hSw; clear hSw; go_simp; try with_reducible rfl)
                try simp only [List.getElem_toArray]
                try simp only [List.getElem_cons_succ]
                try simp only [List.getElem_cons_zero]
                try simp only [Act.put]
                try simp only [List.setIfInBounds_toArray]
                try simp only [List.set_cons_succ]
                try simp only [List.set_cons_zero]
                refine wpAnyH_take (i := 15) (v := ?v36) rfl (by kernel_rfl) (by kernel_rfl) (by kernel_rfl) (fun _ _ _ h => h) (Or.inl ⟨by rfl, ?hy36⟩) hHeld ?rest36
                case hy36 => (intro w hSw; clear hSw; go_simp; try with_reducible rfl)
                try simp only [List.getElem_toArray]
                try simp only [List.getElem_cons_succ]
                try simp only [List.getElem_cons_zero]
                try simp only [Act.put]
                try simp only [List.setIfInBounds_toArray]
                try simp only [List.set_cons_succ]
                try simp only [List.set_cons_zero]
                refine wpAnyH_take (i := 16) (v := ?v37) rfl (by kernel_rfl) (by kernel_rfl) (by kernel_rfl) (fun _ _ _ h => h) (Or.inl ⟨by rfl, ?hy37⟩) hHeld ?rest37
                case hy37 => (intro w hSw; have hc := hSw.1.cell (8 + i) _ (cw_getb a b m g i hi8); clear hSw; go_simp; try with_reducible rfl)
                try simp only [List.getElem_toArray]
                try simp only [List.getElem_cons_succ]
                try simp only [List.getElem_cons_zero]
                try simp only [Act.put]
                try simp only [List.setIfInBounds_toArray]
                try simp only [List.set_cons_succ]
                try simp only [List.set_cons_zero]
                refine wpAnyH_take (i := 17) (v := ?v38) rfl (by kernel_rfl) (by kernel_rfl) (by kernel_rfl) (fun _ _ _ h => h) (Or.inl ⟨by rfl, ?hy38⟩) hHeld ?rest38
                case hy38 => (intro w hSw; clear hSw; go_simp; try with_reducible rfl)
                try simp only [List.getElem_toArray]
                try simp only [List.getElem_cons_succ]
                try simp only [List.getElem_cons_zero]
                try simp only [Act.put]
                try simp only [List.setIfInBounds_toArray]
                try simp only [List.set_cons_succ]
                try simp only [List.set_cons_zero]
                refine wpAnyH_take (i := 18) (v := ?v39) rfl (by kernel_rfl) (by kernel_rfl) (by kernel_rfl) (fun _ _ _ h => h) (Or.inl ⟨by rfl, ?hy39⟩) hHeld ?rest39
                case hy39 => (intro w hSw; clear hSw; go_simp; try with_reducible rfl)
                try simp only [List.getElem_toArray]
                try simp only [List.getElem_cons_succ]
                try simp only [List.getElem_cons_zero]
                try simp only [Act.put]
                try simp only [List.setIfInBounds_toArray]
                try simp only [List.set_cons_succ]
                try simp only [List.set_cons_zero]
                refine wpAnyH_take (i := 19) (v := ?v40) rfl (by kernel_rfl) (by kernel_rfl) (by kernel_rfl) (fun _ _ _ h => h) (Or.inl ⟨by rfl, ?hy40⟩) hHeld ?rest40
                case hy40 => (intro w hSw; clear hSw; go_simp; try with_reducible rfl)
                try simp only [List.getElem_toArray]
                try simp only [List.getElem_cons_succ]
                try simp only [List.getElem_cons_zero]
                try simp only [Act.put]
                try simp only [List.setIfInBounds_toArray]
                try simp only [List.set_cons_succ]
                try simp only [List.set_cons_zero]
                refine wpAnyH_done (by kernel_rfl) ?_ _
                go_wp2_with fail
                exact ⟨⟨i + 1, by omega, by go_num, hHeld.1, hHeld.2, hC0⟩, by simp [intOf]; omega⟩
              · have HcD : Hid (c i = a i) := by rw [hcm]; exact Nat.max_eq_left (by omega)
                clear hcm
                have hC0 : Below w.heap.size w wr.drew := hB.drew
                clear hB
                go_upto_region 19 with fail
                try simp only [Act.put, List.setIfInBounds_toArray, List.set_cons_zero, List.set_cons_succ]
                refine wp_region_held_drew (S := fun w' => Blk w.heap.size (cwc a b m g) 30 w' ∧ Blk vs (mbc c) 25 w') (by kernel_rfl) ⟨a0.drew, a4.drew⟩ (fun hHeld => ?_)
                refine wpAnyH_take (i := 0) (v := ?v41) rfl (by kernel_rfl) (by kernel_rfl) (by kernel_rfl) (fun _ _ _ h => h) (Or.inl ⟨by rfl, ?hy41⟩) hHeld ?rest41
                case hy41 => (intro w hSw; clear hSw; go_simp; try with_reducible rfl)
                try simp only [List.getElem_toArray]
                try simp only [List.getElem_cons_succ]
                try simp only [List.getElem_cons_zero]
                try simp only [Act.put]
                try simp only [List.setIfInBounds_toArray]
                try simp only [List.set_cons_succ]
                try simp only [List.set_cons_zero]
                refine wpAnyH_take (i := 1) (v := ?v42) rfl (by kernel_rfl) (by kernel_rfl) (by kernel_rfl) (fun _ _ _ h => h) (Or.inl ⟨by rfl, ?hy42⟩) hHeld ?rest42
                case hy42 => (intro w hSw; clear hSw; go_simp; try with_reducible rfl)
                try simp only [List.getElem_toArray]
                try simp only [List.getElem_cons_succ]
                try simp only [List.getElem_cons_zero]
                try simp only [Act.put]
                try simp only [List.setIfInBounds_toArray]
                try simp only [List.set_cons_succ]
                try simp only [List.set_cons_zero]
                refine wpAnyH_take (i := 2) (v := ?v43) rfl (by kernel_rfl) (by kernel_rfl) (by kernel_rfl) (fun _ _ _ h => h) (Or.inl ⟨by rfl, ?hy43⟩) hHeld ?rest43
                case hy43 => (intro w hSw; clear hSw; go_simp; try with_reducible rfl)
                try simp only [List.getElem_toArray]
                try simp only [List.getElem_cons_succ]
                try simp only [List.getElem_cons_zero]
                try simp only [Act.put]
                try simp only [List.setIfInBounds_toArray]
                try simp only [List.set_cons_succ]
                try simp only [List.set_cons_zero]
                refine wpAnyH_take (i := 3) (v := ?v44) rfl (by kernel_rfl) (by kernel_rfl) (by kernel_rfl) (fun _ _ _ h => h) (Or.inl ⟨by rfl, ?hy44⟩) hHeld ?rest44
                case hy44 => (intro w hSw; have hc := hSw.1.cell (16 + i) _ (cw_getm a b m g i hi8); clear hSw; go_simp; try with_reducible rfl)
                try simp only [List.getElem_toArray]
                try simp only [List.getElem_cons_succ]
                try simp only [List.getElem_cons_zero]
                try simp only [Act.put]
                try simp only [List.setIfInBounds_toArray]
                try simp only [List.set_cons_succ]
                try simp only [List.set_cons_zero]
                refine wpAnyH_take (i := 4) (v := ?v45) rfl (by kernel_rfl) (by kernel_rfl) (by kernel_rfl) (fun _ _ _ h => h) (Or.inl ⟨by rfl, ?hy45⟩) hHeld ?rest45
                case hy45 => (intro w hSw; clear hSw; go_simp; try with_reducible rfl)
                try simp only [List.getElem_toArray]
                try simp only [List.getElem_cons_succ]
                try simp only [List.getElem_cons_zero]
                try simp only [Act.put]
                try simp only [List.setIfInBounds_toArray]
                try simp only [List.set_cons_succ]
                try simp only [List.set_cons_zero]
                refine wpAnyH_take (i := 5) (v := ?v46) rfl (by kernel_rfl) (by kernel_rfl) (by kernel_rfl) (fun _ _ _ h => h) (Or.inl ⟨by rfl, ?hy46⟩) hHeld ?rest46
                case hy46 => (intro w hSw; clear hSw; go_simp; try with_reducible rfl)
                try simp only [List.getElem_toArray]
                try simp only [List.getElem_cons_succ]
                try simp only [List.getElem_cons_zero]
                try simp only [Act.put]
                try simp only [List.setIfInBounds_toArray]
                try simp only [List.set_cons_succ]
                try simp only [List.set_cons_zero]
                refine wpAnyH_take (i := 6) (v := ?v47) rfl (by kernel_rfl) (by kernel_rfl) (by kernel_rfl) (fun _ _ _ h => h) (Or.inl ⟨by rfl, ?hy47⟩) hHeld ?rest47
                case hy47 => (intro w hSw; clear hSw; go_simp; try with_reducible rfl)
                try simp only [List.getElem_toArray]
                try simp only [List.getElem_cons_succ]
                try simp only [List.getElem_cons_zero]
                try simp only [Act.put]
                try simp only [List.setIfInBounds_toArray]
                try simp only [List.set_cons_succ]
                try simp only [List.set_cons_zero]
                refine wpAnyH_take (i := 7) (v := ?v48) rfl (by kernel_rfl) (by kernel_rfl) (by kernel_rfl) (fun _ _ _ h => h) (Or.inl ⟨by rfl, ?hy48⟩) hHeld ?rest48
                case hy48 => (intro w hSw; clear hSw; go_simp; try with_reducible rfl)
                try simp only [List.getElem_toArray]
                try simp only [List.getElem_cons_succ]
                try simp only [List.getElem_cons_zero]
                try simp only [Act.put]
                try simp only [List.setIfInBounds_toArray]
                try simp only [List.set_cons_succ]
                try simp only [List.set_cons_zero]
                refine wpAnyH_take (i := 8) (v := ?v49) rfl (by kernel_rfl) (by kernel_rfl) (by kernel_rfl) (fun _ _ _ h => h) (Or.inl ⟨by rfl, ?hy49⟩) hHeld ?rest49
                case hy49 => (intro w hSw; have hc := hSw.2.cell i _ (mbc_get c i hi8); rw [HcD.out] at hc; clear hSw; go_simp; try with_reducible rfl)
                try simp only [List.getElem_toArray]
                try simp only [List.getElem_cons_succ]
                try simp only [List.getElem_cons_zero]
                try simp only [Act.put]
                try simp only [List.setIfInBounds_toArray]
                try simp only [List.set_cons_succ]
                try simp only [List.set_cons_zero]
                refine wpAnyH_take (i := 9) (v := ?v50) rfl (by kernel_rfl) (by kernel_rfl) (by kernel_rfl) (fun _ _ _ h => h) (Or.inl ⟨by rfl, ?hy50⟩) hHeld ?rest50
                case hy50 => (intro w hSw; clear hSw; go_simp; try with_reducible rfl)
                try simp only [List.getElem_toArray]
                try simp only [List.getElem_cons_succ]
                try simp only [List.getElem_cons_zero]
                try simp only [Act.put]
                try simp only [List.setIfInBounds_toArray]
                try simp only [List.set_cons_succ]
                try simp only [List.set_cons_zero]
                refine wpAnyH_take (i := 10) (v := ?v51) rfl (by kernel_rfl) (by kernel_rfl) (by kernel_rfl) (fun _ _ _ h => h) (Or.inl ⟨by rfl, ?hy51⟩) hHeld ?rest51
                case hy51 => (intro w hSw; clear hSw; go_simp; try with_reducible rfl)
                try simp only [List.getElem_toArray]
                try simp only [List.getElem_cons_succ]
                try simp only [List.getElem_cons_zero]
                try simp only [Act.put]
                try simp only [List.setIfInBounds_toArray]
                try simp only [List.set_cons_succ]
                try simp only [List.set_cons_zero]
                refine wpAnyH_take (i := 11) (v := ?v52) rfl (by kernel_rfl) (by kernel_rfl) (by kernel_rfl) (fun _ _ _ h => h) (Or.inl ⟨by rfl, ?hy52⟩) hHeld ?rest52
                case hy52 => (intro w hSw; clear hSw; go_simp; try with_reducible rfl)
                try simp only [List.getElem_toArray]
                try simp only [List.getElem_cons_succ]
                try simp only [List.getElem_cons_zero]
                try simp only [Act.put]
                try simp only [List.setIfInBounds_toArray]
                try simp only [List.set_cons_succ]
                try simp only [List.set_cons_zero]
                refine wpAnyH_take (i := 12) (v := ?v53) rfl (by kernel_rfl) (by kernel_rfl) (by kernel_rfl) (fun _ _ _ h => h) (Or.inl ⟨by rfl, ?hy53⟩) hHeld ?rest53
                case hy53 => (intro w hSw; have hc := hSw.1.cell i _ (cw_geta a b m g i hi8); clear hSw; go_simp; try with_reducible rfl)
                try simp only [List.getElem_toArray]
                try simp only [List.getElem_cons_succ]
                try simp only [List.getElem_cons_zero]
                try simp only [Act.put]
                try simp only [List.setIfInBounds_toArray]
                try simp only [List.set_cons_succ]
                try simp only [List.set_cons_zero]
                refine wpAnyH_take (i := 13) (v := ?v54) rfl (by kernel_rfl) (by kernel_rfl) (by kernel_rfl) (fun _ _ _ h => h) (Or.inl ⟨by rfl, ?hy54⟩) hHeld ?rest54
                case hy54 => (intro w hSw; clear hSw; go_simp; try with_reducible rfl)
                try simp only [List.getElem_toArray]
                try simp only [List.getElem_cons_succ]
                try simp only [List.getElem_cons_zero]
                try simp only [Act.put]
                try simp only [List.setIfInBounds_toArray]
                try simp only [List.set_cons_succ]
                try simp only [List.set_cons_zero]
                refine wpAnyH_take (i := 14) (v := ?v55) rfl (by kernel_rfl) (by kernel_rfl) (by kernel_rfl) (fun _ _ _ h => h) (Or.inl ⟨by rfl, ?hy55⟩) hHeld ?rest55
                case hy55 => (intro w hSw; clear hSw; go_simp; try with_reducible rfl)
                try simp only [List.getElem_toArray]
                try simp only [List.getElem_cons_succ]
                try simp only [List.getElem_cons_zero]
                try simp only [Act.put]
                try simp only [List.setIfInBounds_toArray]
                try simp only [List.set_cons_succ]
                try simp only [List.set_cons_zero]
                refine wpAnyH_take (i := 15) (v := ?v56) rfl (by kernel_rfl) (by kernel_rfl) (by kernel_rfl) (fun _ _ _ h => h) (Or.inl ⟨by rfl, ?hy56⟩) hHeld ?rest56
                case hy56 => (intro w hSw; clear hSw; go_simp; try with_reducible rfl)
                try simp only [List.getElem_toArray]
                try simp only [List.getElem_cons_succ]
                try simp only [List.getElem_cons_zero]
                try simp only [Act.put]
                try simp only [List.setIfInBounds_toArray]
                try simp only [List.set_cons_succ]
                try simp only [List.set_cons_zero]
                refine wpAnyH_take (i := 16) (v := ?v57) rfl (by kernel_rfl) (by kernel_rfl) (by kernel_rfl) (fun _ _ _ h => h) (Or.inl ⟨by rfl, ?hy57⟩) hHeld ?rest57
                case hy57 => (intro w hSw; have hc := hSw.1.cell (8 + i) _ (cw_getb a b m g i hi8); clear hSw; go_simp; try with_reducible rfl)
                try simp only [List.getElem_toArray]
                try simp only [List.getElem_cons_succ]
                try simp only [List.getElem_cons_zero]
                try simp only [Act.put]
                try simp only [List.setIfInBounds_toArray]
                try simp only [List.set_cons_succ]
                try simp only [List.set_cons_zero]
                refine wpAnyH_take (i := 17) (v := ?v58) rfl (by kernel_rfl) (by kernel_rfl) (by kernel_rfl) (fun _ _ _ h => h) (Or.inl ⟨by rfl, ?hy58⟩) hHeld ?rest58
                case hy58 => (intro w hSw; clear hSw; go_simp; try with_reducible rfl)
                try simp only [List.getElem_toArray]
                try simp only [List.getElem_cons_succ]
                try simp only [List.getElem_cons_zero]
                try simp only [Act.put]
                try simp only [List.setIfInBounds_toArray]
                try simp only [List.set_cons_succ]
                try simp only [List.set_cons_zero]
                refine wpAnyH_take (i := 18) (v := ?v59) rfl (by kernel_rfl) (by kernel_rfl) (by kernel_rfl) (fun _ _ _ h => h) (Or.inl ⟨by rfl, ?hy59⟩) hHeld ?rest59
                case hy59 => (intro w hSw; clear hSw; go_simp; try with_reducible rfl)
                try simp only [List.getElem_toArray]
                try simp only [List.getElem_cons_succ]
                try simp only [List.getElem_cons_zero]
                try simp only [Act.put]
                try simp only [List.setIfInBounds_toArray]
                try simp only [List.set_cons_succ]
                try simp only [List.set_cons_zero]
                refine wpAnyH_take (i := 19) (v := ?v60) rfl (by kernel_rfl) (by kernel_rfl) (by kernel_rfl) (fun _ _ _ h => h) (Or.inl ⟨by rfl, ?hy60⟩) hHeld ?rest60
                case hy60 => (intro w hSw; clear hSw; go_simp; try with_reducible rfl)
                try simp only [List.getElem_toArray]
                try simp only [List.getElem_cons_succ]
                try simp only [List.getElem_cons_zero]
                try simp only [Act.put]
                try simp only [List.setIfInBounds_toArray]
                try simp only [List.set_cons_succ]
                try simp only [List.set_cons_zero]
                refine wpAnyH_done (by kernel_rfl) ?_ _
                go_wp2_with fail
                exact ⟨⟨i + 1, by omega, by go_num, hHeld.1, hHeld.2, hC0⟩, by simp [intOf]; omega⟩
          · obtain rfl : i = 8 := by omega
            clear a0 a4
            go_wp2_with fail
            go_ret
            exact ⟨rfl, hB⟩

set_option maxRecDepth 100000 in
theorem lifted (os : Go.Os) (started : os.Started) (H : Type) (enc : TypeId × Value → H) :
    ReturnsInHanded {} Try.checked os 5 .any (Rows.cutMissingSpec.pre6 enc Try.prog Try.f5 Rows.cutMissingRow.domain false) (Rows.cutMissingSpec.post enc Try.prog Try.f5 false true false false) := by
  refine returnsInHanded_of_change_sized (C := Try.checked) own started (by kernel_rfl) Try.func5
    (ChangeSpec.witness6 (enc := enc) (C := Try.checked) false ⟨#[], #[.agg (cwc noMb noMb noMb Pl.zero)], []⟩ 8 (by kernel_rfl) (by kernel_rfl) (by kernel_rfl) (by kernel_rfl)) ?_
  intro W base args ds gs before hval0 hW hcnd hsz0 _
  have hval : ∀ (j : Nat) t v, Try.f5.params[j]? = some t → args[j]? = some v → Value.okWide Try.prog W .any base t v := hval0
  have hsz : (DataW.weightsEach Try.prog (Try.f5.params.toList ++ Rows.cutMissingSpec.plain.varTypes Try.prog) (ds ++ gs)).all (· ≤ reachBytes) = true := hsz0
  have hW' := hW
  obtain ⟨p, q, hA0, hV, rfl, hfz, hnd⟩ := hW
  have hA : DataW.TrodAll enc Try.prog W 0 (fun _ => true) true Try.f5.params.toList args.toList ds p := hA0
  rw [Try.params5] at hA hval hsz

  obtain ⟨v0, vs0, d0, ds0, p0, q0, hargs, rfl, rfl, h0, r0⟩ := trodAll_cons hA
  obtain ⟨rfl, rfl, rfl⟩ := trodAll_nil r0
  obtain rfl : args = #[v0] := by cases args; simp_all
  obtain ⟨rfl, rfl⟩ := trodVars_none hV
  obtain ⟨a0_, b0_, m0_, g0_, rfl, ka0, kb0, kg0⟩ := open_cw (by obtain ⟨cs, h1, _⟩ := okWide_struct Try.underlying30 (hval 0 30 v0 rfl rfl); exact ⟨cs, h1⟩) h0
  have hA2 := hA0
  clear hA0 hval0 hsz0
  simp only [List.append_nil] at hW'
  refine (walk a0_ b0_ m0_ g0_ ka0 kb0 kg0 W).mono fun e W' ⟨he, bel⟩ => ?_
  subst he
  exact ⟨_, rfl, _, _, _, [], _, [], hW', trodAll_mk1 (shut_bool Try.underlying4 _), (stays_all laidOut bel (by kernel_rfl) hA2), rfl, bel.frame _, fun h => by cases h⟩

theorem over : Rows.cutMissingRow.holds Try.pinned (OpenSpec.ofChange Rows.cutMissingSpec) :=
  OpenClaim.holds_of_wide 5 Try.f5 rfl rfl rfl rfl rfl rfl rfl ⟨rfl, rfl, rfl, rfl, rfl⟩ rfl rfl rfl rfl rfl (by kernel_rfl) Try.func5 (by kernel_rfl)
    (of_decide_eq_true (by kernel_rfl)) (by unfold Func.isWrapper; first | (rw [if_pos (by decide +kernel)]; kernel_rfl) | (rw [if_neg (by decide +kernel)]; exact ⟨rfl, rfl⟩))
    (fun os started H enc _ => lifted os started H enc)

end Go.Proofs.Ytodemfkjieonoaa.cutMissing
namespace Go.Proofs.Ytodemfkjieonoaa

theorem cutMissing_holds : Rows.CutMissingSaid := cutMissing.over
#print axioms cutMissing_holds

end Go.Proofs.Ytodemfkjieonoaa
