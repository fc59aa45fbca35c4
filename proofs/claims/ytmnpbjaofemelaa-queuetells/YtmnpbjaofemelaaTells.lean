/-
  What any queue is with more entries, what of it is ready, and what still waits, is as the document says: the law QueueTells returns true for every input.
  No condition beyond the form's own.
-/
import Derived.Test.YtmnpbjaofemelaaRows
import Derived.Test.YtmnpbjaofemelaaQuE
import Derived.Test.YtmnpbjaofemelaaQuF
import Derived.Test.YtmnpbjaofemelaaQuG
import Derived.Test.YtmnpbjaofemelaaQuP
import Derived.WalkKit
import Derived.ProofKit
import Derived.OpenShut
import Derived.ShutString
import Derived.SizedLaws
import Derived.ChangeOld
import Derived.Below
namespace Go.Proofs.Ytmnpbjaofemelaa.queueTells
open Go.Sort Go.ChangeShapes Go.WideShapes Go.ChangeAt Go.RowKit
open Go.ChangeMaps (open_string shut_string)
set_option linter.unusedVariables false
set_option maxRecDepth 10000

theorem own : ownKnob Try.prog.godebug = none := by kernel_rfl
theorem length_bytes (s : ByteArray) : s.data.toList.length = s.size := by rw [Array.length_toList]; rfl

set_option maxHeartbeats 16000000 in
theorem walk (la : Option Addr) (L : List Wt) (lc : Nat) (lz : L.length * 80 ≤ 140737488351232) (lk : L.length ≤ lc) (lm : lc ≤ maxLen) (lf : ∀ x ∈ L, x.fit) (x : Fm) (c m : Nat → Nat) (kc : ∀ i, c i < 4294967296) (w : World) (hL : Li Wt.vals 0 la L w) (kx : x.ok w) : Calls Try.prog 3 #[.slice la L.length lc, .agg x.arr, .agg (cmc c m)] w fun e w' => e = .returned (.bool true) ∧ Below w.heap.size w w' := by
  have hE := kx.hS
  obtain ⟨n, hn⟩ : ∃ n, Hid (L.length = n) := ⟨_, rfl⟩
  obtain ⟨ne, he⟩ : ∃ n, Hid (x.L.length = n) := ⟨_, rfl⟩
  have pX := fixed_ok
  by_cases hbig : ¬ (100 < n) ∧ ¬ (20 < ne)
  · obtain ⟨hb1, hb2⟩ := hbig
    have hl1 : L.length ≤ 100 := by rw [hn.out]; omega
    have hl2 : x.L.length ≤ 20 := by rw [he.out]; omega
    obtain ⟨RD, hRD⟩ : ∃ q, Hid (rdyQ c m true L = q) := ⟨_, rfl⟩
    obtain ⟨RS, hRS⟩ : ∃ q, Hid (rstQ c m true L = q) := ⟨_, rfl⟩
    obtain ⟨A, hA9⟩ : ∃ q, Hid (addQ x.f x.r 0 x.L L = q) := ⟨_, rfl⟩
    obtain ⟨nR, hnR⟩ : ∃ n, Hid (RD.length = n) := ⟨_, rfl⟩
    obtain ⟨nT, hnT⟩ : ∃ n, Hid (RS.length = n) := ⟨_, rfl⟩
    obtain ⟨nA, hnA⟩ : ∃ n, Hid (A.length = n) := ⟨_, rfl⟩
    have q1 : RD.length ≤ 100 := by have := (rdy_sub c m L true).length_le; rw [hRD.out] at this; omega
    have q2 : RS.length ≤ 100 := by have := (rst_sub c m L true).length_le; rw [hRS.out] at this; omega
    have q3 : A.length ≤ 120 := by have := addQ_size x.f x.r x.L 0 L; rw [hA9.out] at this; omega
    have pQ : ∀ v, Li Wt.vals 0 la L v → Calls Try.prog 9 #[.slice la n lc, .agg (mbc c), .agg (mbc m)] v fun e w' => (∃ a d a' d', e = .returned (.tuple #[.slice a nR d, .slice a' nT d']) ∧ Li Wt.vals 0 a RD w' ∧ Li Wt.vals 0 a' RS w') ∧ Below v.heap.size v w' := fun v hv => by
      have h := ready_ok c m L lf la lc (by omega) v hv
      rw [hRD.out, hRS.out, hn.out] at h
      refine h.mono ?_
      rintro e w' ⟨⟨a, d, a', d', h1, h2, h3, _⟩, h4⟩
      rw [hnR.out, hnT.out] at h1
      exact ⟨⟨a, d, a', d', h1, h2.li.mono (Nat.zero_le _), h3.li.mono (Nat.zero_le _)⟩, h4⟩
    have pW : ∀ v, Li Wt.vals 0 la L v → Calls Try.prog 10 #[.slice la n lc, .agg (mbc c), .agg (mbc m)] v fun e w' => (∃ a d a' d', e = .returned (.tuple #[.slice a nR d, .slice a' nT d']) ∧ Li Wt.vals 0 a RD w' ∧ Li Wt.vals 0 a' RS w') ∧ Below v.heap.size v w' := fun v hv => by
      have h := rready_ok c m kc L lf la lc (by omega) v hv
      rw [hRD.out, hRS.out, hn.out] at h
      refine h.mono ?_
      rintro e w' ⟨⟨a, d, a', d', h1, h2, h3, _⟩, h4⟩
      rw [hnR.out, hnT.out] at h1
      exact ⟨⟨a, d, a', d', h1, h2.li.mono (Nat.zero_le _), h3.li.mono (Nat.zero_le _)⟩, h4⟩
    have pA : ∀ v, Li Wt.vals 0 la L v → Li En.vals 0 x.a x.L v → Calls Try.prog 12 #[.slice la n lc, .int .i64 x.f, .int .u32 (x.r : Int), .slice x.a ne x.c] v fun e w' => (∃ a d, e = .returned (.slice a nA d) ∧ Li Wt.vals 0 a A w') ∧ Below v.heap.size v w' := fun v hv hv2 => by
      have h := add_ok L lf x.L x.f x.r kx.hf kx.hr la x.a lc x.c (by omega) lk v hv hv2
      rw [hA9.out, hn.out, he.out] at h
      refine h.mono ?_
      rintro e w' ⟨⟨a, d, h1, h2⟩, h4⟩
      rw [hnA.out] at h1
      exact ⟨⟨a, d, h1, h2.li.mono (Nat.zero_le _)⟩, h4⟩
    have pD : ∀ v, Li Wt.vals 0 la L v → Li En.vals 0 x.a x.L v → Calls Try.prog 13 #[.slice la n lc, .int .i64 x.f, .int .u32 (x.r : Int), .slice x.a ne x.c] v fun e w' => (∃ a d, e = .returned (.slice a nA d) ∧ Li Wt.vals 0 a A w') ∧ Below v.heap.size v w' := fun v hv hv2 => by
      have h := radd_ok L x.L x.f x.r la x.a lc x.c (by omega) v hv hv2
      rw [hA9.out, hn.out, he.out] at h
      refine h.mono ?_
      rintro e w' ⟨⟨a, d, h1, h2⟩, h4⟩
      rw [hnA.out] at h1
      exact ⟨⟨a, d, h1, h2⟩, h4⟩
    have pS : ∀ a b c d v, Li Wt.vals 0 a A v → Li Wt.vals 0 b A v → Calls Try.prog 11 #[.slice a nA c, .slice b nA d] v fun e w' => e = .returned (.bool true) ∧ Below v.heap.size v w' := fun a b c d v h1 h2 => by
      have h := wsame_ok A a b c d (by omega) v h1 h2
      rw [hnA.out] at h
      exact h
    have pR : ∀ a b c d v, Li Wt.vals 0 a RD v → Li Wt.vals 0 b RD v → Calls Try.prog 11 #[.slice a nR c, .slice b nR d] v fun e w' => e = .returned (.bool true) ∧ Below v.heap.size v w' := fun a b c d v h1 h2 => by
      have h := wsame_ok RD a b c d (by omega) v h1 h2
      rw [hnR.out] at h
      exact h
    have pT : ∀ a b c d v, Li Wt.vals 0 a RS v → Li Wt.vals 0 b RS v → Calls Try.prog 11 #[.slice a nT c, .slice b nT d] v fun e w' => e = .returned (.bool true) ∧ Below v.heap.size v w' := fun a b c d v h1 h2 => by
      have h := wsame_ok RS a b c d (by omega) v h1 h2
      rw [hnT.out] at h
      exact h
    have pL : ∀ a b c d v, Li Wt.vals 0 a L v → Li Wt.vals 0 b L v → Calls Try.prog 11 #[.slice a n c, .slice b n d] v fun e w' => e = .returned (.bool true) ∧ Below v.heap.size v w' := fun a b c d v h1 h2 => by
      have h := wsame_ok L a b c d (by omega) v h1 h2
      rw [hn.out] at h
      exact h
    have pF : ∀ v, Li Wt.vals 0 la L v → Calls Try.prog 14 #[.slice la n lc] v fun e w' => (∃ a d, e = .returned (.slice a n d) ∧ Li Wt.vals 0 a L w') ∧ Below v.heap.size v w' := fun v hv => by
      have h := flush_ok L la lc (by omega) v hv
      rw [hn.out] at h
      refine h.mono ?_
      rintro e w' ⟨⟨a, d, h1, h2⟩, h4⟩
      rw [hn.out] at h1
      exact ⟨⟨a, d, h1, h2.li.mono (Nat.zero_le _)⟩, h4⟩
    obtain ⟨t, ht⟩ : ∃ t, mayW L = t := ⟨_, rfl⟩
    have pM : ∀ v, Li Wt.vals 0 la L v → Calls Try.prog 15 #[.slice la n lc] v fun e w' => e = .returned (.bool t) ∧ Below v.heap.size v w' := fun v hv => by
      have h := qmay_ok L la lc (by omega) v hv
      rw [hn.out, ht] at h
      exact h
    have pN : ∀ v, Li Wt.vals 0 la L v → Calls Try.prog 16 #[.slice la n lc] v fun e w' => e = .returned (.bool t) ∧ Below v.heap.size v w' := fun v hv => by
      have h := qrmay_ok L la lc (by omega) v hv
      rw [hn.out, ht] at h
      exact h
    have hn1 : ¬ (100 : Int) < (n : Int) := by omega
    have he1 : ¬ (20 : Int) < (ne : Int) := by omega
    clear ht q1 q2 q3 hl1 hl2 hb1 hb2 lf kc kx
    rw [hn.out] at lk ⊢
    obtain ⟨bx, by9, hB⟩ := two_blk (T0 := 26) (T1 := 31) (C0 := x.arr) (C1 := cmc c m) (w := w) rfl
    go_enter Try.func3, Try.ntmps3
    go_upto_region 1 with fail
    try simp only [Act.put]
    generalize (w.alloc (Obj.cells x.arr 26)).alloc (Obj.cells (cmc c m) 31) = W at bx by9 hB ⊢
    have c2 : W.cell? ⟨w.heap.size, 2, none⟩ = some (.slice x.a ne x.c) := (bx.cell 2 (.slice x.a x.L.length x.c) rfl).trans (by rw [he.out])
    go_wp2_with (first | refine load_part rfl 28 _ rfl (o := 0) by9 rfl (row8 c) (cmc_c c m) Try.underlying28 rfl sizeCt ?_ | refine load_part rfl 29 _ rfl (o := 8) by9 rfl (row8 m) (cmc_m c m) Try.underlying29 rfl sizeMb ?_)
    refine (pQ W (hL.below hB)).mono ?_
    rintro r w1 ⟨⟨a1, d1, a2, d2, rfl, hR, hT⟩, hb⟩
    replace hB := hB.trans (hb.mono hB.size)
    replace by9 := by9.below hb
    replace bx := bx.below hb
    clear hb c2 pQ
    go_wp2_with (first | refine load_part rfl 28 _ rfl (o := 0) by9 rfl (row8 c) (cmc_c c m) Try.underlying28 rfl sizeCt ?_ | refine load_part rfl 29 _ rfl (o := 8) by9 rfl (row8 m) (cmc_m c m) Try.underlying29 rfl sizeMb ?_)
    refine (pW w1 (hL.below hB)).mono ?_
    rintro r V ⟨⟨a3, d3, a4, d4, rfl, hR2, hT2⟩, hb⟩
    replace hB := hB.trans (hb.mono hB.size)
    replace hR := hR.below hb
    replace hT := hT.below hb
    replace bx := bx.below hb
    replace hL := hL.below hB
    replace hE := hE.below hB
    clear hb by9 pW
    go_upto_region 5 with fail
    try simp only [Act.put, List.setIfInBounds_toArray, List.set_cons_zero, List.set_cons_succ]
    refine wp_region_held_drew (S := fun v => Below V.heap.size V v) (by kernel_rfl) ((Below.refl _ _).drew) (fun hHeld => ?_)
    refine rd1 0 (fun K hK => ?_)
    go_simp
    go_wp2_with (refine (pX _).mono ?_; rintro r u1 ⟨rfl, hb⟩)
    refine hK.out _ _ (below_next hHeld hb) (fun hHeld => ?_)
    clear hK K hb
    refine tkQ 1 hHeld ?_
    try simp only [yy]
    refine tkQ 2 hHeld ?_
    try simp only [yy]
    refine tkQ 3 hHeld ?_
    try simp only [yy]
    refine tkH 4 (v := ?v38) rfl (by kernel_rfl) (fun _ _ _ h => h) (Or.inl ⟨by rfl, ?hy38⟩) hHeld ?rest38
    case hy38 => (intro w hSw; have hc := (bx.below hSw).cell 0 (Value.int .i64 x.f) rfl; clear hSw; go_simp; try with_reducible rfl)
    try simp only [yy]
    refine tkQ 5 hHeld ?_
    try simp only [yy]
    refine tkH 6 (v := ?v40) rfl (by kernel_rfl) (fun _ _ _ h => h) (Or.inl ⟨by rfl, ?hy40⟩) hHeld ?rest40
    case hy40 => (intro w hSw; have hc := (bx.below hSw).cell 1 (Value.int .u32 (x.r : Int)) rfl; clear hSw; go_simp; try with_reducible rfl)
    try simp only [yy]
    refine tkQ 7 hHeld ?_
    try simp only [yy]
    refine tkH 8 (v := ?v42) rfl (by kernel_rfl) (fun _ _ _ h => h) (Or.inl ⟨by rfl, ?hy42⟩) hHeld ?rest42
    case hy42 => (intro w hSw; have hc := (bx.below hSw).cell 2 (Value.slice x.a x.L.length x.c) rfl; rw [he.out] at hc; clear hSw; go_simp; try with_reducible rfl)
    try simp only [yy]
    refine tkQ 10 hHeld ?_
    try simp only [yy]
    refine tkQ 11 hHeld ?_
    try simp only [yy]
    refine tkH 12 (v := ?v45) rfl (by kernel_rfl) (fun _ _ _ h => h) (Or.inl ⟨by rfl, ?hy45⟩) hHeld ?rest45
    case hy45 => (intro w hSw; have hc := (bx.below hSw).cell 0 (Value.int .i64 x.f) rfl; clear hSw; go_simp; try with_reducible rfl)
    try simp only [yy]
    refine tkQ 13 hHeld ?_
    try simp only [yy]
    refine tkH 14 (v := ?v47) rfl (by kernel_rfl) (fun _ _ _ h => h) (Or.inl ⟨by rfl, ?hy47⟩) hHeld ?rest47
    case hy47 => (intro w hSw; have hc := (bx.below hSw).cell 1 (Value.int .u32 (x.r : Int)) rfl; clear hSw; go_simp; try with_reducible rfl)
    try simp only [yy]
    refine tkQ 15 hHeld ?_
    try simp only [yy]
    refine tkH 16 (v := ?v49) rfl (by kernel_rfl) (fun _ _ _ h => h) (Or.inl ⟨by rfl, ?hy49⟩) hHeld ?rest49
    case hy49 => (intro w hSw; have hc := (bx.below hSw).cell 2 (Value.slice x.a x.L.length x.c) rfl; rw [he.out] at hc; clear hSw; go_simp; try with_reducible rfl)
    try simp only [yy]
    refine rd1 9 (fun K hK => ?_)
    go_simp
    go_wp2_with (refine (pA _ (hL.below hHeld) (hE.below hHeld)).mono ?_; rintro r u2 ⟨⟨aA, cA, rfl, hA⟩, hb⟩)
    refine hK.out _ _ (below_next hHeld hb) (fun hHeld => ?_)
    clear hK K hb
    refine rd1 17 (fun K hK => ?_)
    go_simp
    go_wp2_with (refine (pD _ (hL.below hHeld) (hE.below hHeld)).mono ?_; rintro r u3 ⟨⟨aD, cD, rfl, hD⟩, hb⟩)
    replace hA := hA.below hb
    refine hK.out _ _ (below_next hHeld hb) (fun hHeld => ?_)
    clear hK K hb
    refine rd1 18 (fun K hK => ?_)
    go_simp
    go_wp2_with (refine (pS _ _ _ _ _ hA hD).mono ?_; rintro r u4 ⟨rfl, hb⟩)
    refine hK.out _ _ (below_next hHeld hb) (fun hHeld => ?_)
    clear hK K hb
    refine tkQ 19 hHeld ?_
    try simp only [yy]
    refine tkQ 20 hHeld ?_
    try simp only [yy]
    refine tkQ 21 hHeld ?_
    try simp only [yy]
    refine tkQ 22 hHeld ?_
    try simp only [yy]
    refine rd1 23 (fun K hK => ?_)
    go_simp
    go_wp2_with (refine (pR _ _ _ _ _ (hR.below hHeld) (hR2.below hHeld)).mono ?_; rintro r u5 ⟨rfl, hb⟩)
    refine hK.out _ _ (below_next hHeld hb) (fun hHeld => ?_)
    clear hK K hb
    refine tkQ 24 hHeld ?_
    try simp only [yy]
    refine tkQ 25 hHeld ?_
    try simp only [yy]
    refine tkQ 26 hHeld ?_
    try simp only [yy]
    refine tkQ 27 hHeld ?_
    try simp only [yy]
    refine rd1 28 (fun K hK => ?_)
    go_simp
    go_wp2_with (refine (pT _ _ _ _ _ (hT.below hHeld) (hT2.below hHeld)).mono ?_; rintro r u6 ⟨rfl, hb⟩)
    refine hK.out _ _ (below_next hHeld hb) (fun hHeld => ?_)
    clear hK K hb
    refine tkQ 29 hHeld ?_
    try simp only [yy]
    refine tkQ 30 hHeld ?_
    try simp only [yy]
    refine tkQ 31 hHeld ?_
    try simp only [yy]
    refine tkQ 33 hHeld ?_
    try simp only [yy]
    refine rd1 32 (fun K hK => ?_)
    go_simp
    go_wp2_with (refine (pF _ (hL.below hHeld)).mono ?_; rintro r u7 ⟨⟨aF, cF, rfl, hF⟩, hb⟩)
    refine hK.out _ _ (below_next hHeld hb) (fun hHeld => ?_)
    clear hK K hb
    refine rd1 34 (fun K hK => ?_)
    go_simp
    go_wp2_with (refine (pL _ _ _ _ _ hF (hL.below hHeld)).mono ?_; rintro r u8 ⟨rfl, hb⟩)
    refine hK.out _ _ (below_next hHeld hb) (fun hHeld => ?_)
    clear hK K hb
    refine tkQ 35 hHeld ?_
    try simp only [yy]
    refine tkQ 36 hHeld ?_
    try simp only [yy]
    refine tkQ 37 hHeld ?_
    try simp only [yy]
    refine tkQ 39 hHeld ?_
    try simp only [yy]
    refine rd1 38 (fun K hK => ?_)
    go_simp
    go_wp2_with (refine (pM _ (hL.below hHeld)).mono ?_; rintro r u9 ⟨rfl, hb⟩)
    refine hK.out _ _ (below_next hHeld hb) (fun hHeld => ?_)
    clear hK K hb
    refine rd1 40 (fun K hK => ?_)
    go_simp
    go_wp2_with (refine (pN _ (hL.below hHeld)).mono ?_; rintro r u10 ⟨rfl, hb⟩)
    refine hK.out _ _ (below_next hHeld hb) (fun hHeld => ?_)
    clear hK K hb
    refine tkQ 41 hHeld ?_
    try simp only [yy]
    refine tkQ 42 hHeld ?_
    try simp only [yy]
    refine tkQ 43 hHeld ?_
    try simp only [yy]
    refine wpAnyH_done (by kernel_rfl) ?_ _
    have hBB := hB.trans (hHeld.mono hB.size)
    go_wp2_with fail
    go_ret
    exact ⟨rfl, hBB⟩
  · rw [hn.out] at lk ⊢
    have hor : (100 : Int) < (n : Int) ∨ (¬ (100 : Int) < (n : Int) ∧ (20 : Int) < (ne : Int)) := by omega
    clear lf kc kx hbig hE
    obtain ⟨bx, by9, hB⟩ := two_blk (T0 := 26) (T1 := 31) (C0 := x.arr) (C1 := cmc c m) (w := w) rfl
    go_enter Try.func3, Try.ntmps3
    go_upto_region 1 with fail
    try simp only [Act.put]
    generalize (w.alloc (Obj.cells x.arr 26)).alloc (Obj.cells (cmc c m) 31) = W at bx by9 hB ⊢
    have c2 : W.cell? ⟨w.heap.size, 2, none⟩ = some (.slice x.a ne x.c) := (bx.cell 2 (.slice x.a x.L.length x.c) rfl).trans (by rw [he.out])
    clear bx by9
    rcases hor with h1 | ⟨h1, h2⟩
    · go_wp2_with fail
      refine (pX W).mono ?_
      rintro r wq ⟨rfl, hb⟩
      replace hB := hB.trans (hb.mono hB.size)
      clear hb
      go_wp2_with fail
      go_ret
      exact ⟨rfl, hB⟩
    · go_wp2_with fail
      refine (pX W).mono ?_
      rintro r wq ⟨rfl, hb⟩
      replace hB := hB.trans (hb.mono hB.size)
      clear hb
      go_wp2_with fail
      go_ret
      exact ⟨rfl, hB⟩

set_option maxRecDepth 100000 in
theorem lifted (os : Go.Os) (started : os.Started) (H : Type) (enc : TypeId × Value → H) :
    ReturnsInHanded {} Try.checked os 3 .any (Rows.queueTellsSpec.pre6 enc Try.prog Try.f3 Rows.queueTellsRow.domain false) (Rows.queueTellsSpec.post enc Try.prog Try.f3 false true false false) := by
  refine returnsInHanded_of_change_sized (C := Try.checked) own started (by kernel_rfl) Try.func3
    (ChangeSpec.witness6 (enc := enc) (C := Try.checked) false ⟨#[], #[.slice none 0 0, .agg Fm.zero.arr, .agg (cmc noMb noMb)], []⟩ 8 (by kernel_rfl) (by kernel_rfl) (by kernel_rfl) (by kernel_rfl)) ?_
  intro W base args ds gs before hval0 hW hcnd hsz0 _
  have hval : ∀ (j : Nat) t v, Try.f3.params[j]? = some t → args[j]? = some v → Value.okWide Try.prog W .any base t v := hval0
  have hsz : (DataW.weightsEach Try.prog (Try.f3.params.toList ++ Rows.queueTellsSpec.plain.varTypes Try.prog) (ds ++ gs)).all (· ≤ reachBytes) = true := hsz0
  have hW' := hW
  obtain ⟨p, q, hA0, hV, rfl, hfz, hnd⟩ := hW
  have hA : DataW.TrodAll enc Try.prog W 0 (fun _ => true) true Try.f3.params.toList args.toList ds p := hA0
  rw [Try.params3] at hA hval hsz

  obtain ⟨v0, vs0, d0, ds0, p0, q0, hargs, rfl, rfl, h0, r0⟩ := trodAll_cons hA
  obtain ⟨v1, vs1, d1, ds1, p1, q1, rfl, rfl, rfl, h1, r1⟩ := trodAll_cons r0
  obtain ⟨v2, vs2, d2, ds2, p2, q2, rfl, rfl, rfl, h2, r2⟩ := trodAll_cons r1
  obtain ⟨rfl, rfl, rfl⟩ := trodAll_nil r2
  obtain rfl : args = #[v0, v1, v2] := by cases args; simp_all
  obtain ⟨rfl, rfl⟩ := trodVars_none hV
  obtain ⟨la0, L0, lc0, rfl, lz0, hc0, hm0, ls0, hS0⟩ := open_wts (okWide_slice Try.underlying22 (hval 0 22 v0 rfl rfl)) (fun n hn => of_decide_eq_true (List.all_eq_true.1 hsz _ (DataW.weights_mem_each (j := 0) rfl rfl n hn))) h0
  obtain ⟨x1, rfl, kx1⟩ := open_fm (by obtain ⟨cs, h1, _⟩ := okWide_struct Try.underlying26 (hval 1 26 v1 rfl rfl); exact ⟨cs, h1⟩) (fun n hn => of_decide_eq_true (List.all_eq_true.1 hsz _ (DataW.weights_mem_each (j := 1) rfl rfl n hn))) h1
  obtain ⟨c2, m2, rfl, kc2, km2⟩ := open_cm (by obtain ⟨cs, h1, _⟩ := okWide_struct Try.underlying31 (hval 2 31 v2 rfl rfl); exact ⟨cs, h1⟩) h2
  have hA2 := hA0
  clear hA0 hval0 hsz0
  simp only [List.append_nil] at hW'
  refine (walk la0 L0 lc0 lz0 hc0 hm0 ls0 x1 c2 m2 kc2 W hS0 kx1).mono fun e W' ⟨he, bel⟩ => ?_
  subst he
  exact ⟨_, rfl, _, _, _, [], _, [], hW', trodAll_mk1 (shut_bool Try.underlying4 _), (stays_all laidOut bel (by kernel_rfl) hA2), rfl, bel.frame _, fun h => by cases h⟩

theorem over : Rows.queueTellsRow.holds Try.pinned (OpenSpec.ofChange Rows.queueTellsSpec) :=
  OpenClaim.holds_of_wide 3 Try.f3 rfl rfl rfl rfl rfl rfl rfl ⟨rfl, rfl, rfl, rfl, rfl⟩ rfl rfl rfl rfl rfl (by kernel_rfl) Try.func3 (by kernel_rfl)
    (of_decide_eq_true (by kernel_rfl)) (by unfold Func.isWrapper; first | (rw [if_pos (by decide +kernel)]; kernel_rfl) | (rw [if_neg (by decide +kernel)]; exact ⟨rfl, rfl⟩))
    (fun os started H enc _ => lifted os started H enc)

end Go.Proofs.Ytmnpbjaofemelaa.queueTells
namespace Go.Proofs.Ytmnpbjaofemelaa

theorem queueTells_holds : Rows.QueueTellsSaid := queueTells.over
#print axioms queueTells_holds

end Go.Proofs.Ytmnpbjaofemelaa
