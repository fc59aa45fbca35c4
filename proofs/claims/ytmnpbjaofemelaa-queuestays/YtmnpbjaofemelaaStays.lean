/-
  A queue that may be stays one, whatever is added; what is ready, and what still waits, are such, and together it: the law QueueStays returns true for every input.
  No condition beyond the form's own.
-/
import Derived.Test.YtmnpbjaofemelaaRows
import Derived.Test.YtmnpbjaofemelaaQuE
import Derived.Test.YtmnpbjaofemelaaQuG
import Derived.Test.YtmnpbjaofemelaaQuP
import Derived.WalkKit
import Derived.ProofKit
import Derived.OpenShut
import Derived.ShutString
import Derived.SizedLaws
import Derived.ChangeOld
import Derived.Below
namespace Go.Proofs.Ytmnpbjaofemelaa.queueStays
open Go.Sort Go.ChangeShapes Go.WideShapes Go.ChangeAt Go.RowKit
open Go.ChangeMaps (open_string shut_string)
set_option linter.unusedVariables false
set_option maxRecDepth 10000

theorem own : ownKnob Try.prog.godebug = none := by kernel_rfl
theorem length_bytes (s : ByteArray) : s.data.toList.length = s.size := by rw [Array.length_toList]; rfl

set_option maxHeartbeats 16000000 in
theorem walk (la : Option Addr) (L : List Wt) (lc : Nat) (lz : L.length * 80 ≤ 140737488351232) (lk : L.length ≤ lc) (lm : lc ≤ maxLen) (lf : ∀ x ∈ L, x.fit) (x : Fm) (c m : Nat → Nat) (kc : ∀ i, c i < 4294967296) (w : World) (hL : Li Wt.vals 0 la L w) (kx : x.ok w) : Calls Try.prog 4 #[.slice la L.length lc, .agg x.arr, .agg (cmc c m)] w fun e w' => e = .returned (.bool true) ∧ Below w.heap.size w w' := by
  have hE := kx.hS
  obtain ⟨n, hn⟩ : ∃ n, Hid (L.length = n) := ⟨_, rfl⟩
  obtain ⟨ne, he⟩ : ∃ n, Hid (x.L.length = n) := ⟨_, rfl⟩
  have pX := fixed_ok
  have hl9 : L.length ≤ 9223372036854775807 := by omega
  obtain ⟨t, ht⟩ : ∃ t, mayW L = t := ⟨_, rfl⟩
  have pM : ∀ v, Li Wt.vals 0 la L v → Calls Try.prog 15 #[.slice la n lc] v fun e w' => e = .returned (.bool t) ∧ Below v.heap.size v w' := fun v hv => by
    have h := qmay_ok L la lc hl9 v hv
    rw [hn.out, ht] at h
    exact h
  cases t with
  | false =>
    clear ht lf kx hE hl9
    rw [hn.out] at lk ⊢
    obtain ⟨bx, by9, hB⟩ := two_blk (T0 := 26) (T1 := 31) (C0 := x.arr) (C1 := cmc c m) (w := w) rfl
    go_enter Try.func4, Try.ntmps4
    go_upto_region 1 with fail
    try simp only [Act.put]
    generalize (w.alloc (Obj.cells x.arr 26)).alloc (Obj.cells (cmc c m) 31) = W at bx by9 hB ⊢
    have c0 : W.cell? ⟨w.heap.size, 0, none⟩ = some (.int .i64 x.f) := bx.cell 0 _ rfl
    have c1 : W.cell? ⟨w.heap.size, 1, none⟩ = some (.int .u32 (x.r : Int)) := bx.cell 1 _ rfl
    have c2 : W.cell? ⟨w.heap.size, 2, none⟩ = some (.slice x.a ne x.c) := (bx.cell 2 (.slice x.a x.L.length x.c) rfl).trans (by rw [he.out])
    go_wp2_with fail
    refine (fixed_ok _).mono ?_
    rintro r w1 ⟨rfl, hb⟩
    replace bx := bx.below hb
    replace by9 := by9.below hb
    replace hB := hB.trans (hb.mono hB.size)
    clear c0 c1 c2
    have c0 : w1.cell? ⟨w.heap.size, 0, none⟩ = some (.int .i64 x.f) := bx.cell 0 _ rfl
    have c1 : w1.cell? ⟨w.heap.size, 1, none⟩ = some (.int .u32 (x.r : Int)) := bx.cell 1 _ rfl
    have c2 : w1.cell? ⟨w.heap.size, 2, none⟩ = some (.slice x.a ne x.c) := (bx.cell 2 (.slice x.a x.L.length x.c) rfl).trans (by rw [he.out])
    clear hb
    go_wp2_with fail
    refine (pM _ (hL.below hB)).mono ?_
    rintro r w2 ⟨rfl, hb⟩
    replace bx := bx.below hb
    replace by9 := by9.below hb
    replace hB := hB.trans (hb.mono hB.size)
    clear c0 c1 c2
    have c0 : w2.cell? ⟨w.heap.size, 0, none⟩ = some (.int .i64 x.f) := bx.cell 0 _ rfl
    have c1 : w2.cell? ⟨w.heap.size, 1, none⟩ = some (.int .u32 (x.r : Int)) := bx.cell 1 _ rfl
    have c2 : w2.cell? ⟨w.heap.size, 2, none⟩ = some (.slice x.a ne x.c) := (bx.cell 2 (.slice x.a x.L.length x.c) rfl).trans (by rw [he.out])
    clear hb
    go_wp2_with fail
    refine (fixed_ok _).mono ?_
    rintro r w3 ⟨rfl, hb⟩
    replace bx := bx.below hb
    replace by9 := by9.below hb
    replace hB := hB.trans (hb.mono hB.size)
    clear c0 c1 c2
    have c0 : w3.cell? ⟨w.heap.size, 0, none⟩ = some (.int .i64 x.f) := bx.cell 0 _ rfl
    have c1 : w3.cell? ⟨w.heap.size, 1, none⟩ = some (.int .u32 (x.r : Int)) := bx.cell 1 _ rfl
    have c2 : w3.cell? ⟨w.heap.size, 2, none⟩ = some (.slice x.a ne x.c) := (bx.cell 2 (.slice x.a x.L.length x.c) rfl).trans (by rw [he.out])
    clear hb
    go_wp2_with fail
    go_ret
    exact ⟨rfl, hB⟩
  | true =>
    by_cases hbig : ¬ (100 < n) ∧ ¬ (20 < ne)
    · obtain ⟨hb1, hb2⟩ := hbig
      have hl1 : L.length ≤ 100 := by rw [hn.out]; omega
      have hl2 : x.L.length ≤ 20 := by rw [he.out]; omega
      obtain ⟨A, hA9⟩ : ∃ q, Hid (addQ x.f x.r 0 x.L L = q) := ⟨_, rfl⟩
      obtain ⟨RD, hRD⟩ : ∃ q, Hid (rdyQ c m true A = q) := ⟨_, rfl⟩
      obtain ⟨RS, hRS⟩ : ∃ q, Hid (rstQ c m true A = q) := ⟨_, rfl⟩
      obtain ⟨nR, hnR⟩ : ∃ n, Hid (RD.length = n) := ⟨_, rfl⟩
      obtain ⟨nT, hnT⟩ : ∃ n, Hid (RS.length = n) := ⟨_, rfl⟩
      obtain ⟨nA, hnA⟩ : ∃ n, Hid (A.length = n) := ⟨_, rfl⟩
      have q3 : nA ≤ 120 := by have := addQ_size x.f x.r x.L 0 L; rw [hA9.out] at this; have := hnA.out; omega
      have hmA : MayQ A := by rw [← hA9.out]; exact addQ_may x.f x.r x.L 0 L ((mayW_iff L).1 ht)
      have hsum : nR + nT = nA := by rw [← hnR.out, ← hnT.out, ← hnA.out, ← hRD.out, ← hRS.out]; exact rdy_rst c m A true
      have hm1 : mayW A = true := (mayW_iff A).2 hmA
      have hm2 : mayW RD = true := by rw [← hRD.out]; exact (mayW_iff _).2 (hmA.sub (rdy_sub c m A true))
      have hm3 : mayW RS = true := by rw [← hRS.out]; exact (mayW_iff _).2 (hmA.sub (rst_sub c m A true))
      have HKeep : Hid (∀ y ∈ L, y ∈ A) := fun y hy => by rw [← hA9.out]; exact addQ_keeps x.f x.r x.L 0 L y hy
      have HOne : Hid (∀ y ∈ A, (hasW RD y == hasW RS y) = false) := fun y hy => by
        rw [beq_eq_false_iff_ne]
        intro e
        rw [← hRD.out, ← hRS.out] at e
        rcases rdy_or c m A true y hy with h | h
        · have h1 := (hasW_iff _ _).2 h
          rw [h1] at e
          exact rdy_not c m A true y hmA.1 h ((hasW_iff _ _).1 e.symm)
        · have h1 := (hasW_iff _ _).2 h
          rw [h1] at e
          exact rdy_not c m A true y hmA.1 ((hasW_iff _ _).1 e) h
      have hfA : ∀ y ∈ A, y.fit := by rw [← hA9.out]; exact addQ_fit x.f x.r kx.hr kx.hf x.L 0 L (by omega) lf
      have pA : ∀ v, Li Wt.vals 0 la L v → Li En.vals 0 x.a x.L v → Calls Try.prog 12 #[.slice la n lc, .int .i64 x.f, .int .u32 (x.r : Int), .slice x.a ne x.c] v fun e w' => (∃ a d, e = .returned (.slice a nA d) ∧ Li Wt.vals 0 a A w') ∧ Below v.heap.size v w' := fun v hv hv2 => by
        have h := add_ok L lf x.L x.f x.r kx.hf kx.hr la x.a lc x.c (by omega) lk v hv hv2
        rw [hA9.out, hn.out, he.out] at h
        refine h.mono ?_
        rintro e w' ⟨⟨a, d, h1, h2⟩, h4⟩
        rw [hnA.out] at h1
        exact ⟨⟨a, d, h1, h2.li.mono (Nat.zero_le _)⟩, h4⟩
      have pQ : ∀ a k v, Li Wt.vals 0 a A v → Calls Try.prog 9 #[.slice a nA k, .agg (mbc c), .agg (mbc m)] v fun e w' => (∃ a d a' d', e = .returned (.tuple #[.slice a nR d, .slice a' nT d']) ∧ Li Wt.vals 0 a RD w' ∧ Li Wt.vals 0 a' RS w') ∧ Below v.heap.size v w' := fun a k v hv => by
        have h := ready_ok c m A hfA a k (by rw [hnA.out]; omega) v hv
        rw [hRD.out, hRS.out, hnA.out] at h
        refine h.mono ?_
        rintro e w' ⟨⟨a, d, a', d', h1, h2, h3, _⟩, h4⟩
        rw [hnR.out, hnT.out] at h1
        exact ⟨⟨a, d, a', d', h1, h2.li.mono (Nat.zero_le _), h3.li.mono (Nat.zero_le _)⟩, h4⟩
      have m1 : ∀ a d v, Li Wt.vals 0 a A v → Calls Try.prog 15 #[.slice a nA d] v fun e w' => e = .returned (.bool true) ∧ Below v.heap.size v w' := fun a d v hv => by
        have h := qmay_ok A a d (by rw [hnA.out]; omega) v hv
        rw [hnA.out, hm1] at h
        exact h
      have m2 : ∀ a d v, Li Wt.vals 0 a RD v → Calls Try.prog 15 #[.slice a nR d] v fun e w' => e = .returned (.bool true) ∧ Below v.heap.size v w' := fun a d v hv => by
        have h := qmay_ok RD a d (by rw [hnR.out]; omega) v hv
        rw [hnR.out, hm2] at h
        exact h
      have m3 : ∀ a d v, Li Wt.vals 0 a RS v → Calls Try.prog 15 #[.slice a nT d] v fun e w' => e = .returned (.bool true) ∧ Below v.heap.size v w' := fun a d v hv => by
        have h := qmay_ok RS a d (by rw [hnT.out]; omega) v hv
        rw [hnT.out, hm3] at h
        exact h
      have e9 : ((nR : Int) + (nT : Int) != (nA : Int)) = false := by simp; omega
      have hA63 : nA ≤ 9223372036854775807 := by omega
      have hR63 : nR ≤ 9223372036854775807 := by omega
      have hT63 : nT ≤ 9223372036854775807 := by omega
      have hn1 : ¬ (100 : Int) < (n : Int) := by omega
      have he1 : ¬ (20 : Int) < (ne : Int) := by omega
      clear ht hmA hm1 hm2 hm3 hfA hl1 hl2 hb1 hb2 lf kx hl9
      rw [hn.out] at lk ⊢
      obtain ⟨bx, by9, hB⟩ := two_blk (T0 := 26) (T1 := 31) (C0 := x.arr) (C1 := cmc c m) (w := w) rfl
      go_enter Try.func4, Try.ntmps4
      go_upto_region 1 with fail
      try simp only [Act.put]
      generalize (w.alloc (Obj.cells x.arr 26)).alloc (Obj.cells (cmc c m) 31) = W at bx by9 hB ⊢
      have c0 : W.cell? ⟨w.heap.size, 0, none⟩ = some (.int .i64 x.f) := bx.cell 0 _ rfl
      have c1 : W.cell? ⟨w.heap.size, 1, none⟩ = some (.int .u32 (x.r : Int)) := bx.cell 1 _ rfl
      have c2 : W.cell? ⟨w.heap.size, 2, none⟩ = some (.slice x.a ne x.c) := (bx.cell 2 (.slice x.a x.L.length x.c) rfl).trans (by rw [he.out])
      go_wp2_with fail
      refine (fixed_ok _).mono ?_
      rintro r w1 ⟨rfl, hb⟩
      replace bx := bx.below hb
      replace by9 := by9.below hb
      replace hB := hB.trans (hb.mono hB.size)
      clear c0 c1 c2
      have c0 : w1.cell? ⟨w.heap.size, 0, none⟩ = some (.int .i64 x.f) := bx.cell 0 _ rfl
      have c1 : w1.cell? ⟨w.heap.size, 1, none⟩ = some (.int .u32 (x.r : Int)) := bx.cell 1 _ rfl
      have c2 : w1.cell? ⟨w.heap.size, 2, none⟩ = some (.slice x.a ne x.c) := (bx.cell 2 (.slice x.a x.L.length x.c) rfl).trans (by rw [he.out])
      clear hb
      go_wp2_with fail
      refine (pM _ (hL.below hB)).mono ?_
      rintro r w2 ⟨rfl, hb⟩
      replace bx := bx.below hb
      replace by9 := by9.below hb
      replace hB := hB.trans (hb.mono hB.size)
      clear c0 c1 c2
      have c0 : w2.cell? ⟨w.heap.size, 0, none⟩ = some (.int .i64 x.f) := bx.cell 0 _ rfl
      have c1 : w2.cell? ⟨w.heap.size, 1, none⟩ = some (.int .u32 (x.r : Int)) := bx.cell 1 _ rfl
      have c2 : w2.cell? ⟨w.heap.size, 2, none⟩ = some (.slice x.a ne x.c) := (bx.cell 2 (.slice x.a x.L.length x.c) rfl).trans (by rw [he.out])
      clear hb
      go_wp2_with fail
      refine (pA _ (hL.below hB) (hE.below hB)).mono ?_
      rintro r w3 ⟨⟨aA, cA, rfl, hA⟩, hb⟩
      replace bx := bx.below hb
      replace by9 := by9.below hb
      replace hB := hB.trans (hb.mono hB.size)
      clear c0 c1 c2
      have c0 : w3.cell? ⟨w.heap.size, 0, none⟩ = some (.int .i64 x.f) := bx.cell 0 _ rfl
      have c1 : w3.cell? ⟨w.heap.size, 1, none⟩ = some (.int .u32 (x.r : Int)) := bx.cell 1 _ rfl
      have c2 : w3.cell? ⟨w.heap.size, 2, none⟩ = some (.slice x.a ne x.c) := (bx.cell 2 (.slice x.a x.L.length x.c) rfl).trans (by rw [he.out])
      clear hb
      go_wp2_with (first | refine load_part rfl 28 _ rfl (o := 0) by9 rfl (row8 c) (cmc_c c m) Try.underlying28 rfl sizeCt ?_ | refine load_part rfl 29 _ rfl (o := 8) by9 rfl (row8 m) (cmc_m c m) Try.underlying29 rfl sizeMb ?_)
      refine (pQ _ _ _ hA).mono ?_
      rintro r w4 ⟨⟨aR, cR, aT, cT, rfl, hR, hT⟩, hb⟩
      replace hB := hB.trans (hb.mono hB.size)
      replace hA := hA.below hb
      clear hb c0 c1 c2 by9 bx pQ pM pA
      go_wp2_with fail
      refine (m1 _ _ _ hA).mono ?_
      rintro r w4a ⟨rfl, hb⟩
      replace hB := hB.trans (hb.mono hB.size)
      replace hA := hA.below hb
      replace hR := hR.below hb
      replace hT := hT.below hb
      clear hb
      go_wp2_with fail
      refine (m2 _ _ _ hR).mono ?_
      rintro r w4b ⟨rfl, hb⟩
      replace hB := hB.trans (hb.mono hB.size)
      replace hA := hA.below hb
      replace hR := hR.below hb
      replace hT := hT.below hb
      clear hb
      go_wp2_with fail
      refine (m3 _ _ _ hT).mono ?_
      rintro r w5 ⟨rfl, hb⟩
      replace hB := hB.trans (hb.mono hB.size)
      replace hA := hA.below hb
      replace hR := hR.below hb
      replace hT := hT.below hb
      clear hb
      have HAL : Hid (Li Wt.vals 0 aA A w5) := hA
      have HRL : Hid (Li Wt.vals 0 aR RD w5) := hR
      have HTL : Hid (Li Wt.vals 0 aT RS w5) := hT
      clear hA hR hT m1 m2 m3
      go_wp2_with fail
      go_loopw [10] (fun iv wr => ∃ j : Nat, j ≤ n ∧ iv = .int .i64 j ∧ Below w.heap.size w wr ∧ Below w5.heap.size w5 wr) (fun iv _ => n - (intOf iv).toNat)
      case atStart => exact ⟨0, by omega, rfl, hB, Below.refl _ _⟩
      case round =>
        clear hB
        obtain ⟨j, hj, rfl, hB, hC⟩ := hrel
        rename World => wr
        have j1 : (0 : Int) ≤ (j : Int) := by omega
        by_cases hjn : j < n
        · have j0 : (j : Int) < (n : Int) := by omega
          obtain ⟨y, hy⟩ : ∃ k, L[j]? = some k := ⟨_, List.getElem?_eq_getElem (by rw [hn.out]; exact hjn)⟩
          have hin : hasW A y = true := (hasW_iff A y).2 (HKeep.out y (List.mem_of_getElem? hy))
          have pH := fun v h => rhasw_ok y A aA cA (by rw [hnA.out]; exact hA63) v h
          rw [hin, hnA.out] at pH
          obtain ⟨b, o, rfl, _, hbl, hr⟩ := (hL.below hB).at Wt.vals_length j y hy
          clear hy hin
          go_wp2_with (refine load_range rfl 47 _ rfl y.vals hr rfl Try.underlying47 rfl sizeWt ?_)
          refine (pH _ (HAL.out.below hC)).mono ?_
          rintro r w7 ⟨rfl, hb⟩
          replace hB := hB.trans (hb.mono hB.size)
          replace hC := hC.trans (hb.mono hC.size)
          clear hb pH hr hbl
          go_wp2_with fail
          exact ⟨⟨j + 1, by omega, by go_num, hB, hC⟩, by simp [intOf]; omega⟩
        · obtain rfl : j = n := by omega
          go_wp2_with fail
          go_loopw [11] (fun iv wr => ∃ k : Nat, k ≤ nA ∧ iv = .int .i64 k ∧ Below w.heap.size w wr ∧ Below w5.heap.size w5 wr) (fun iv _ => nA - (intOf iv).toNat)
          case atStart => exact ⟨0, by omega, rfl, hB, hC⟩
          case round =>
            clear hB hC
            obtain ⟨k, hk, rfl, hB, hC⟩ := hrel
            rename World => wr
            have k1 : (0 : Int) ≤ (k : Int) := by omega
            by_cases hkn : k < nA
            · have k0 : (k : Int) < (nA : Int) := by omega
              obtain ⟨y, hy⟩ : ∃ q, A[k]? = some q := ⟨_, List.getElem?_eq_getElem (by rw [hnA.out]; exact hkn)⟩
              obtain ⟨ta, hta⟩ : ∃ t, hasW RD y = t := ⟨_, rfl⟩
              obtain ⟨tb, htb⟩ : ∃ t, hasW RS y = t := ⟨_, rfl⟩
              have hne : (ta == tb) = false := by rw [← hta, ← htb]; exact HOne.out y (List.mem_of_getElem? hy)
              have pa := fun v h => rhasw_ok y RD aR cR (by rw [hnR.out]; exact hR63) v h
              have pb := fun v h => rhasw_ok y RS aT cT (by rw [hnT.out]; exact hT63) v h
              rw [hta, hnR.out] at pa
              rw [htb, hnT.out] at pb
              obtain ⟨b, o, rfl, _, hbl, hr⟩ := (HAL.out.below hC).at Wt.vals_length k y hy
              have lyw : ∀ w', (∃ p : Regrown, w' = grow (redrawn wr p.d) p.os) → w'.rangeAt b (o + k * 9) y.vals := fun w' ⟨p, e⟩ => e ▸ range_block hr ((below_regrown wr p.d p.os).block b hbl)
              have p0 : ∀ d' os, Calls Try.prog 17 #[.slice aR nR cR, .agg y.vals.toArray] (grow (redrawn wr d') os) fun e w'' => e = .returned (.bool ta) ∧ ∃ p : Regrown, w'' = grow (redrawn wr p.d) p.os := fun d' os => Calls.regrown_of (pa _ (HRL.out.below (hC.trans ((below_regrown wr d' os).mono hC.size))))
              have p1 : ∀ d' os, Calls Try.prog 17 #[.slice aT nT cT, .agg y.vals.toArray] (grow (redrawn wr d') os) fun e w'' => e = .returned (.bool tb) ∧ ∃ p : Regrown, w'' = grow (redrawn wr p.d) p.os := fun d' os => Calls.regrown_of (pb _ (HTL.out.below (hC.trans ((below_regrown wr d' os).mono hC.size))))
              clear hy hta htb pa pb hr hbl
              go_upto_region 15 with fail
              try simp only [Act.put, List.setIfInBounds_toArray, List.set_cons_zero, List.set_cons_succ]
              refine wp_region_quiet_below (by kernel_rfl) (by kernel_rfl) ?_
              repeat (first
                | (go_big_quiet_want; refine quiet_range (off := o + k * 9) rfl rfl lyw Try.underlying47 rfl sizeWt ?_; simp only [Act.put, List.setIfInBounds_toArray, List.set_cons_zero, List.set_cons_succ]; go_big_quiet_on)
                | go_big_quiet_step (first | with_reducible exact p0 _ _ | with_reducible exact p1 _ _))
              refine wpQuiet_nil ?_
              intro _ hw'
              obtain ⟨⟨dq, osq⟩, hw''⟩ := hw'
              have hb := below_regrown wr dq osq
              subst hw''
              generalize grow (redrawn wr dq) osq = w8 at hb ⊢
              replace hB := hB.trans (hb.mono hB.size)
              replace hC := hC.trans (hb.mono hC.size)
              clear hb lyw p0 p1
              go_wp2_with fail
              exact ⟨⟨k + 1, by omega, by go_num, hB, hC⟩, by simp [intOf]; omega⟩
            · obtain rfl : k = nA := by omega
              go_wp2_with fail
              go_ret
              exact ⟨rfl, hB⟩
    · rw [hn.out] at lk ⊢
      have hor : (100 : Int) < (n : Int) ∨ (¬ (100 : Int) < (n : Int) ∧ (20 : Int) < (ne : Int)) := by omega
      clear ht lf kx hbig hE hl9
      obtain ⟨bx, by9, hB⟩ := two_blk (T0 := 26) (T1 := 31) (C0 := x.arr) (C1 := cmc c m) (w := w) rfl
      go_enter Try.func4, Try.ntmps4
      go_upto_region 1 with fail
      try simp only [Act.put]
      generalize (w.alloc (Obj.cells x.arr 26)).alloc (Obj.cells (cmc c m) 31) = W at bx by9 hB ⊢
      have c0 : W.cell? ⟨w.heap.size, 0, none⟩ = some (.int .i64 x.f) := bx.cell 0 _ rfl
      have c1 : W.cell? ⟨w.heap.size, 1, none⟩ = some (.int .u32 (x.r : Int)) := bx.cell 1 _ rfl
      have c2 : W.cell? ⟨w.heap.size, 2, none⟩ = some (.slice x.a ne x.c) := (bx.cell 2 (.slice x.a x.L.length x.c) rfl).trans (by rw [he.out])
      go_wp2_with fail
      refine (fixed_ok _).mono ?_
      rintro r w1 ⟨rfl, hb⟩
      replace bx := bx.below hb
      replace by9 := by9.below hb
      replace hB := hB.trans (hb.mono hB.size)
      clear c0 c1 c2
      have c0 : w1.cell? ⟨w.heap.size, 0, none⟩ = some (.int .i64 x.f) := bx.cell 0 _ rfl
      have c1 : w1.cell? ⟨w.heap.size, 1, none⟩ = some (.int .u32 (x.r : Int)) := bx.cell 1 _ rfl
      have c2 : w1.cell? ⟨w.heap.size, 2, none⟩ = some (.slice x.a ne x.c) := (bx.cell 2 (.slice x.a x.L.length x.c) rfl).trans (by rw [he.out])
      clear hb
      go_wp2_with fail
      refine (pM _ (hL.below hB)).mono ?_
      rintro r w2 ⟨rfl, hb⟩
      replace bx := bx.below hb
      replace by9 := by9.below hb
      replace hB := hB.trans (hb.mono hB.size)
      clear c0 c1 c2
      have c0 : w2.cell? ⟨w.heap.size, 0, none⟩ = some (.int .i64 x.f) := bx.cell 0 _ rfl
      have c1 : w2.cell? ⟨w.heap.size, 1, none⟩ = some (.int .u32 (x.r : Int)) := bx.cell 1 _ rfl
      have c2 : w2.cell? ⟨w.heap.size, 2, none⟩ = some (.slice x.a ne x.c) := (bx.cell 2 (.slice x.a x.L.length x.c) rfl).trans (by rw [he.out])
      clear hb
      rcases hor with h1 | ⟨h1, h2⟩
      · go_wp2_with fail
        refine (fixed_ok _).mono ?_
        rintro r w3 ⟨rfl, hb⟩
        replace bx := bx.below hb
        replace by9 := by9.below hb
        replace hB := hB.trans (hb.mono hB.size)
        clear c0 c1 c2
        have c0 : w3.cell? ⟨w.heap.size, 0, none⟩ = some (.int .i64 x.f) := bx.cell 0 _ rfl
        have c1 : w3.cell? ⟨w.heap.size, 1, none⟩ = some (.int .u32 (x.r : Int)) := bx.cell 1 _ rfl
        have c2 : w3.cell? ⟨w.heap.size, 2, none⟩ = some (.slice x.a ne x.c) := (bx.cell 2 (.slice x.a x.L.length x.c) rfl).trans (by rw [he.out])
        clear hb
        go_wp2_with fail
        go_ret
        exact ⟨rfl, hB⟩
      · go_wp2_with fail
        refine (fixed_ok _).mono ?_
        rintro r w3 ⟨rfl, hb⟩
        replace bx := bx.below hb
        replace by9 := by9.below hb
        replace hB := hB.trans (hb.mono hB.size)
        clear c0 c1 c2
        have c0 : w3.cell? ⟨w.heap.size, 0, none⟩ = some (.int .i64 x.f) := bx.cell 0 _ rfl
        have c1 : w3.cell? ⟨w.heap.size, 1, none⟩ = some (.int .u32 (x.r : Int)) := bx.cell 1 _ rfl
        have c2 : w3.cell? ⟨w.heap.size, 2, none⟩ = some (.slice x.a ne x.c) := (bx.cell 2 (.slice x.a x.L.length x.c) rfl).trans (by rw [he.out])
        clear hb
        go_wp2_with fail
        go_ret
        exact ⟨rfl, hB⟩

set_option maxRecDepth 100000 in
theorem lifted (os : Go.Os) (started : os.Started) (H : Type) (enc : TypeId × Value → H) :
    ReturnsInHanded {} Try.checked os 4 .any (Rows.queueStaysSpec.pre6 enc Try.prog Try.f4 Rows.queueStaysRow.domain false) (Rows.queueStaysSpec.post enc Try.prog Try.f4 false true false false) := by
  refine returnsInHanded_of_change_sized (C := Try.checked) own started (by kernel_rfl) Try.func4
    (ChangeSpec.witness6 (enc := enc) (C := Try.checked) false ⟨#[], #[.slice none 0 0, .agg Fm.zero.arr, .agg (cmc noMb noMb)], []⟩ 8 (by kernel_rfl) (by kernel_rfl) (by kernel_rfl) (by kernel_rfl)) ?_
  intro W base args ds gs before hval0 hW hcnd hsz0 _
  have hval : ∀ (j : Nat) t v, Try.f4.params[j]? = some t → args[j]? = some v → Value.okWide Try.prog W .any base t v := hval0
  have hsz : (DataW.weightsEach Try.prog (Try.f4.params.toList ++ Rows.queueStaysSpec.plain.varTypes Try.prog) (ds ++ gs)).all (· ≤ reachBytes) = true := hsz0
  have hW' := hW
  obtain ⟨p, q, hA0, hV, rfl, hfz, hnd⟩ := hW
  have hA : DataW.TrodAll enc Try.prog W 0 (fun _ => true) true Try.f4.params.toList args.toList ds p := hA0
  rw [Try.params4] at hA hval hsz

  obtain ⟨v0, vs0, d0, ds0, p0, q0, hargs, rfl, rfl, h0, r0⟩ := trodAll_cons hA
  obtain ⟨v1, vs1, d1, ds1, p1, q1, rfl, rfl, rfl, h1, r1⟩ := trodAll_cons r0
  obtain ⟨v2, vs2, d2, ds2, p2, q2, rfl, rfl, rfl, h2, r2⟩ := trodAll_cons r1
  obtain ⟨rfl, rfl, rfl⟩ := trodAll_nil r2
  obtain rfl : args = #[v0, v1, v2] := by cases args; simp_all
  obtain ⟨rfl, rfl⟩ := trodVars_none hV
  obtain ⟨la0, L0, lc0, rfl, lz0, hc0, hm0, ls0, hS0⟩ := open_wts (okWide_slice Try.underlying22 (hval 0 22 v0 rfl rfl)) (fun n hn => of_decide_eq_true (List.all_eq_true.1 hsz _ (DataW.weights_mem_each (j := 0) rfl rfl n hn))) h0
  obtain ⟨x1, rfl, kx1⟩ := open_fm (by obtain ⟨cs, h1, _⟩ := okWide_struct Try.underlying26 (hval 1 26 v1 rfl rfl); exact ⟨cs, h1⟩) (fun n hn => of_decide_eq_true (List.all_eq_true.1 hsz _ (DataW.weights_mem_each (j := 1) rfl rfl n hn))) h1
  obtain ⟨c2, m2, rfl, kc2, km2⟩ := open_cm (by obtain ⟨cs, h1, _⟩ := okWide_struct Try.underlying31 (hval 2 31 v2 rfl rfl); exact ⟨cs, h1⟩) h2
  have hA2 := hA0
  clear hA0 hval0 hsz0
  simp only [List.append_nil] at hW'
  refine (walk la0 L0 lc0 lz0 hc0 hm0 ls0 x1 c2 m2 kc2 W hS0 kx1).mono fun e W' ⟨he, bel⟩ => ?_
  subst he
  exact ⟨_, rfl, _, _, _, [], _, [], hW', trodAll_mk1 (shut_bool Try.underlying4 _), (stays_all laidOut bel (by kernel_rfl) hA2), rfl, bel.frame _, fun h => by cases h⟩

theorem over : Rows.queueStaysRow.holds Try.pinned (OpenSpec.ofChange Rows.queueStaysSpec) :=
  OpenClaim.holds_of_wide 4 Try.f4 rfl rfl rfl rfl rfl rfl rfl ⟨rfl, rfl, rfl, rfl, rfl⟩ rfl rfl rfl rfl rfl (by kernel_rfl) Try.func4 (by kernel_rfl)
    (of_decide_eq_true (by kernel_rfl)) (by unfold Func.isWrapper; first | (rw [if_pos (by decide +kernel)]; kernel_rfl) | (rw [if_neg (by decide +kernel)]; exact ⟨rfl, rfl⟩))
    (fun os started H enc _ => lifted os started H enc)

end Go.Proofs.Ytmnpbjaofemelaa.queueStays
namespace Go.Proofs.Ytmnpbjaofemelaa

theorem queueStays_holds : Rows.QueueStaysSaid := queueStays.over
#print axioms queueStays_holds

end Go.Proofs.Ytmnpbjaofemelaa
