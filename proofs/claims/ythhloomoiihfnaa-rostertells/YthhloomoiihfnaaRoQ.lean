/-
  Rosters: what the document's Open answers.
  Each theorem says its own conditions: a roster that memory bears.
-/
import Derived.Test.YthhloomoiihfnaaRoP
namespace Go.Proofs.Ythhloomoiihfnaa
set_option maxRecDepth 10000
set_option linter.unusedSimpArgs false
open Go.RowKit Go.Sort
set_option linter.unusedVariables false
set_option linter.unusedSimpArgs false

theorem sizeSS : (Try.prog.info? 23).map (·.size) = some 1 := by kernel_rfl

set_option maxHeartbeats 4000000 in
theorem ropen_ok (l : Nat) (L : List Se) (la : Option Addr) (lc : Nat) (lm : L.length * 16 ≤ 140737488351232) (w : World) (hS : Li Se.vals 0 la L w) :
    Calls Try.prog 8 #[.agg #[.int .u64 (l : Int), .slice la L.length lc]] w fun e w' => Opened l L w.heap.size e w' ∧ Below w.heap.size w w' := by
  obtain ⟨iI, zI, hI, hz0, hsz, hby, hzs⟩ := infoSe
  have HE := fun w' => opened_no (l := l) (L := L) (B := w.heap.size) (w' := w')
  obtain ⟨n, hn⟩ : ∃ n, Hid (L.length = n) := ⟨_, rfl⟩
  rw [hn.out] at lm HE ⊢
  obtain ⟨a1, a2, hB⟩ := two_blk (T0 := 25) (T1 := 25) (C0 := #[.int .u64 (l : Int), .slice la n lc]) (C1 := #[.int .u64 0, .slice none 0 0]) (w := w) rfl
  go_enter Try.func8, Try.ntmps8
  go_upto_region 1 with (go_big_may; refine alloc_zero zeroRo rfl rfl ?_)
  try simp only [Act.put]
  generalize (w.alloc (Obj.cells #[.int .u64 (l : Int), .slice la n lc] 25)).alloc (Obj.cells #[.int .u64 0, .slice none 0 0] 25) = W at a1 a2 hB ⊢
  have c0 : W.cell? ⟨w.heap.size, 0, none⟩ = some (.int .u64 (l : Int)) := a1.cell 0 _ rfl
  have c1 : W.cell? ⟨w.heap.size, 1, none⟩ = some (.slice la n lc) := a1.cell 1 _ rfl
  by_cases h4 : 4 ≤ n
  · have d4 : (3 : Int) < (n : Int) := by omega
    replace HE := fun w' => HE w' (.inl h4)
    clear h4
    go_wp2_with (first | refine build_zero builtRo rfl rfl ?_ | (refine store_all rfl 25 _ _ rfl (cells := #[.int .u64 0, .slice none 0 0]) a2 rfl rfl sizeRo rfl (ro_one _ _ _ _) ?_; intro w9 b9 k9; have hB9 := below_at hB k9 (by omega)))
    refine bodyPost_ret (w := w9) (v := .tuple #[.agg #[.int .u64 0, .slice none 0 0], .int .u64 0, .int .i64 161]) (ret_ctt rfl rfl b9 Try.underlying25 rfl sizeRo rfl rfl) rfl ⟨HE w9, hB9⟩
  have d4 : ¬ (3 : Int) < (n : Int) := by omega
  by_cases h5 : 65535 ≤ l
  · have d5 : (65534 : Int) < (l : Int) := by omega
    replace HE := fun w' => HE w' (.inr h5)
    clear h5
    go_wp2_with (first | refine build_zero builtRo rfl rfl ?_ | (refine store_all rfl 25 _ _ rfl (cells := #[.int .u64 0, .slice none 0 0]) a2 rfl rfl sizeRo rfl (ro_one _ _ _ _) ?_; intro w9 b9 k9; have hB9 := below_at hB k9 (by omega)))
    refine bodyPost_ret (w := w9) (v := .tuple #[.agg #[.int .u64 0, .slice none 0 0], .int .u64 0, .int .i64 161]) (ret_ctt rfl rfl b9 Try.underlying25 rfl sizeRo rfl rfl) rfl ⟨HE w9, hB9⟩
  have d5 : ¬ (65534 : Int) < (l : Int) := by omega
  obtain ⟨k, hk⟩ : ∃ k, Hid (l + 1 = k) := ⟨_, rfl⟩
  have u1 : IntKind.u64.wrap ((l : Int) + 1) = (k : Int) := by have := hk.out; rw [IntKind.wrap_u64]; omega
  have HO := fun w' a c h => opened_yes (w' := w') (B := w.heap.size) (show ¬ (4 ≤ n ∨ 65535 ≤ l) by omega) hn.out hk.out a c h
  have n4 : n < 4 := by omega
  have hB0 := hB.size
  clear HE h4 h5
  go_upto_region 3 with fail
  try simp only [Act.put]
  clear d4 d5 c0 c1
  go_cut [5] from 16 to 23 (fun yv wx => ∃ yp aL cL, yv = .pointer (some ⟨yp, 0, none⟩) ∧ Blk yp #[.int .u64 (k : Int), .slice aL n cL] 25 wx ∧ Lg Se.vals 2 41 W.heap.size aL cL L wx ∧ yp ∉ blkOf aL ∧ W.heap.size ≤ yp ∧ Below W.heap.size W wx)
  case first =>
    refine wp_region_held_drew (S := fun v => Below W.heap.size W v) (by kernel_rfl) ((Below.refl _ _).drew) (fun hHeld => ?_)
    refine tkQ 0 hHeld ?_
    try simp only [yy]
    refine tkH 1 (v := ?v28) rfl (by kernel_rfl) (fun _ _ _ h => h) (Or.inl ⟨by rfl, ?hy28⟩) hHeld ?rest28
    case hy28 => (intro w hSw; have hc := (a1.below hSw).cell 0 (.int .u64 (l : Int)) rfl; clear hSw; go_simp; try with_reducible rfl)
    try simp only [yy]
    refine tkQ 2 hHeld ?_
    try simp only [yy]
    refine tkQ 4 hHeld ?_
    try simp only [yy]
    refine tkH 5 (v := ?v31) rfl (by kernel_rfl) (fun _ _ _ h => h) (Or.inl ⟨by rfl, ?hy31⟩) hHeld ?rest31
    case hy31 => (intro w hSw; have hc := (a1.below hSw).cell 1 (.slice la n lc) rfl; clear hSw; go_simp; try with_reducible rfl)
    try simp only [yy]
    refine wpAnyH_ready (rs := [3, 8]) (by kernel_rfl) (by simp) ?_
    refine AllReadyH.cons rfl (fun K hK => ?_) (AllReadyH.cons rfl (fun K hK => ?_) (AllReadyH.nil))
    · rw [if_pos (by rfl)]
      refine wp_Se0 rfl ?_
      intro g0 u1 hE hb hgl hgt
      replace hE := hE.mono (Nat.le_trans hHeld.size hgl)
      refine hK.out _ _ (below_next hHeld hb) (fun hHeld => ?_)
      clear hK K hb hgl hgt
      try simp only [yy]
      refine wpAnyH_ready (rs := [6, 8]) (by kernel_rfl) (by simp) ?_
      refine AllReadyH.cons rfl (fun K hK => ?_) (AllReadyH.cons rfl (fun K hK => ?_) (AllReadyH.nil))
      · rw [if_pos (by rfl)]
        have hx9 := (hS.below (below_next hB hHeld)).src (P := Try.prog) Se.vals_length Se.vals_one Try.underlying23 lc
        rw [hn.out] at hx9
        refine wp_append_any Se.vals_length _ _ rfl Try.underlying23 hI hz0 hsz hby hzs hE hHeld.size rfl rfl (M := L) (m := n) hn.out (by rw [hn.out]; exact hx9) rfl (Nat.zero_add n) (by omega) (by simp only [maxLen]; omega) ?_
        intro aL cL u2 hG hk hA
        rw [List.nil_append] at hG
        refine hK.out _ _ (hHeld.trans (hk.below (fun k hk => (hE.in k hk).1) hHeld.size)) (fun hHeld => ?_)
        clear hK K hk hA hx9 hE
        try simp only [yy]
        refine tkH 7 (v := .agg #[.int .u64 (k : Int), .slice aL n cL]) rfl (by kernel_rfl) (fun _ _ _ h => h) (yields_build (by rfl) 25 #[(0, .tmp 18), (1, .tmp 22)] rfl (by kernel_rfl)) hHeld ?rest32
        try simp only [yy]
        refine rd1 8 (fun K hK => ?_)
        rw [if_pos (by rfl)]
        refine wp_alloc_any zeroRo rfl ?_
        intro yp u3 hY hb hyl hyt
        have hyg := Nat.le_trans hHeld.size hyl
        have hoff : yp ∉ blkOf aL := fun hm => by have h9 := (hG.in _ hm).2; omega
        replace hG := hG.below hb
        refine hK.out _ _ (below_next hHeld hb) (fun hHeld => ?_)
        clear hK K hb hyl hyt
        try simp only [yy]
        refine rd1 9 (fun K hK => ?_)
        rw [if_pos (by rfl)]
        refine wp_store_all 25 _ _ rfl (cells := #[.int .u64 (k : Int), .slice aL n cL]) hY rfl rfl sizeRo rfl (ro_one _ _ _ _) ?_
        intro wY hY2 k9
        replace hG := hG.away k9 hoff
        refine hK.out _ _ (below_at hHeld k9 hyg) (fun hHeld => ?_)
        clear hK K k9 hY
        try simp only [yy]
        refine wpAnyH_done (by kernel_rfl) ?_ _
        go_wp2_with fail
        go_meet
        exact ⟨yp, aL, cL, rfl, hY2, hG, hoff, hyg, hHeld⟩
      · rw [if_pos (by rfl)]
        refine wp_alloc_any zeroRo rfl ?_
        intro yp u5 hY hb hyl hyt
        have hyg := Nat.le_trans hHeld.size hyl
        have hoff : yp ∉ blkOf (some ⟨g0, 0, none⟩) := fun hm => by have h9 := (hE.in _ hm).2; omega
        replace hE := hE.below hb
        refine hK.out _ _ (below_next hHeld hb) (fun hHeld => ?_)
        clear hK K hb hyl hyt
        try simp only [yy]
        refine rd1 6 (fun K hK => ?_)
        rw [if_pos (by rfl)]
        have hx9 := (hS.below (below_next hB hHeld)).src (P := Try.prog) Se.vals_length Se.vals_one Try.underlying23 lc
        rw [hn.out] at hx9
        refine wp_append_any Se.vals_length _ _ rfl Try.underlying23 hI hz0 hsz hby hzs hE hHeld.size rfl rfl (M := L) (m := n) hn.out (by rw [hn.out]; exact hx9) rfl (Nat.zero_add n) (by omega) (by simp only [maxLen]; omega) ?_
        intro aL cL u6 hG hk hA
        rw [List.nil_append] at hG
        have hyl := hY.lt
        replace hY := hY.kp hk hoff
        replace hoff : yp ∉ blkOf aL := (fun hm => by rcases hA _ hm with h | h; exact hoff h; omega)
        clear hyl
        refine hK.out _ _ (hHeld.trans (hk.below (fun k hk => (hE.in k hk).1) hHeld.size)) (fun hHeld => ?_)
        clear hK K hk hA hx9 hE
        try simp only [yy]
        refine tkH 7 (v := .agg #[.int .u64 (k : Int), .slice aL n cL]) rfl (by kernel_rfl) (fun _ _ _ h => h) (yields_build (by rfl) 25 #[(0, .tmp 18), (1, .tmp 22)] rfl (by kernel_rfl)) hHeld ?rest33
        try simp only [yy]
        refine rd1 9 (fun K hK => ?_)
        rw [if_pos (by rfl)]
        refine wp_store_all 25 _ _ rfl (cells := #[.int .u64 (k : Int), .slice aL n cL]) hY rfl rfl sizeRo rfl (ro_one _ _ _ _) ?_
        intro wY hY2 k9
        replace hG := hG.away k9 hoff
        refine hK.out _ _ (below_at hHeld k9 hyg) (fun hHeld => ?_)
        clear hK K k9 hY
        try simp only [yy]
        refine wpAnyH_done (by kernel_rfl) ?_ _
        go_wp2_with fail
        go_meet
        exact ⟨yp, aL, cL, rfl, hY2, hG, hoff, hyg, hHeld⟩
    · rw [if_pos (by rfl)]
      refine wp_alloc_any zeroRo rfl ?_
      intro yp u8 hY hb hyl hyt
      have hyg := Nat.le_trans hHeld.size hyl
      refine hK.out _ _ (below_next hHeld hb) (fun hHeld => ?_)
      clear hK K hb hyl hyt
      try simp only [yy]
      refine rd1 3 (fun K hK => ?_)
      rw [if_pos (by rfl)]
      refine wp_Se0 rfl ?_
      intro g0 u9 hE hb hgl hgt
      replace hE := hE.mono (Nat.le_trans hHeld.size hgl)
      have hyl := hY.lt
      replace hY := hY.below hb
      have hoff : yp ∉ blkOf (some ⟨g0, 0, none⟩) := fun hm => by simp [blkOf] at hm; omega
      clear hyl
      refine hK.out _ _ (below_next hHeld hb) (fun hHeld => ?_)
      clear hK K hb hgl hgt
      try simp only [yy]
      refine rd1 6 (fun K hK => ?_)
      rw [if_pos (by rfl)]
      have hx9 := (hS.below (below_next hB hHeld)).src (P := Try.prog) Se.vals_length Se.vals_one Try.underlying23 lc
      rw [hn.out] at hx9
      refine wp_append_any Se.vals_length _ _ rfl Try.underlying23 hI hz0 hsz hby hzs hE hHeld.size rfl rfl (M := L) (m := n) hn.out (by rw [hn.out]; exact hx9) rfl (Nat.zero_add n) (by omega) (by simp only [maxLen]; omega) ?_
      intro aL cL u10 hG hk hA
      rw [List.nil_append] at hG
      have hyl := hY.lt
      replace hY := hY.kp hk hoff
      replace hoff : yp ∉ blkOf aL := (fun hm => by rcases hA _ hm with h | h; exact hoff h; omega)
      clear hyl
      refine hK.out _ _ (hHeld.trans (hk.below (fun k hk => (hE.in k hk).1) hHeld.size)) (fun hHeld => ?_)
      clear hK K hk hA hx9 hE
      try simp only [yy]
      refine tkH 7 (v := .agg #[.int .u64 (k : Int), .slice aL n cL]) rfl (by kernel_rfl) (fun _ _ _ h => h) (yields_build (by rfl) 25 #[(0, .tmp 18), (1, .tmp 22)] rfl (by kernel_rfl)) hHeld ?rest34
      try simp only [yy]
      refine rd1 9 (fun K hK => ?_)
      rw [if_pos (by rfl)]
      refine wp_store_all 25 _ _ rfl (cells := #[.int .u64 (k : Int), .slice aL n cL]) hY rfl rfl sizeRo rfl (ro_one _ _ _ _) ?_
      intro wY hY2 k9
      replace hG := hG.away k9 hoff
      refine hK.out _ _ (below_at hHeld k9 hyg) (fun hHeld => ?_)
      clear hK K k9 hY
      try simp only [yy]
      refine wpAnyH_done (by kernel_rfl) ?_ _
      go_wp2_with fail
      go_meet
      exact ⟨yp, aL, cL, rfl, hY2, hG, hoff, hyg, hHeld⟩
  case rest =>
    obtain ⟨yp, aL, cL, rfl, hY, hG, hoff, hyg, hb⟩ := hcut
    rename World => V
    have hw2 := a2.lt
    have hoff1 : w.heap.size ∉ blkOf aL := fun hm => by have h9 := (hG.in _ hm).1; omega
    have hoff2 : w.heap.size + 1 ∉ blkOf aL := fun hm => by have h9 := (hG.in _ hm).1; omega
    replace a1 := a1.below hb
    replace a2 := a2.below hb
    replace hB := below_next hB hb
    clear hb
    have y0 : V.cell? ⟨yp, 1, none⟩ = some (.slice aL n cL) := hY.cell 1 _ rfl
    have q0 : V.cell? ⟨w.heap.size, 0, none⟩ = some (.int .u64 (l : Int)) := a1.cell 0 _ rfl
    replace hG := hG.mono hB0
    go_upto_region 5 with (go_big_may; first | (refine box_Se rfl _ rfl ⟨k, 0⟩ rfl ?_; intro W2 hl2 hb2; have hG2 := hG.below hb2; have hB2 := below_next hB hb2; have a12 := a1.below hb2; have a22 := a2.below hb2; have hY22 := hY.below hb2) | (refine append_any Se.vals_length rfl _ _ rfl Try.underlying23 hI hz0 hsz hby hzs hG2 hB2.size hn.out rfl (M := [⟨k, 0⟩]) (m := 1) rfl (hl2.src Se.vals_length Se.vals_one Try.underlying23 1) rfl (by omega) (by simp only [maxLen]; omega) ?_; intro a3 c3 W3 hG3 hK3 hA3; have a13 := a12.kp hK3 hoff1; have a23 := a22.kp hK3 hoff2; have hY3 := hY22.kp hK3 hoff; have hB3 : Below w.heap.size w W3 := hB2.trans (hK3.below (fun k hk => (hG2.in k hk).1) hB2.size)) | (refine store_one rfl 23 _ _ rfl (off := 1) (.slice a3 (n + 1) c3) hY3 rfl rfl rfl rfl sizeSS (show 1 + 1 ≤ 2 by decide) ?_; intro W4 hY4 k4))
    try simp only [Act.put]
    have hlw := a22.lt
    have hly := hY22.lt
    have hoffy : yp ∉ blkOf a3 := (fun hm => by rcases hA3 _ hm with h | h; exact hoff h; omega)
    have hoff4 : w.heap.size + 1 ∉ blkOf a3 := (fun hm => by rcases hA3 _ hm with h | h; exact hoff2 h; omega)
    have hG4 := hG3.away k4 hoffy
    replace hY4 : Blk yp #[.int .u64 (k : Int), .slice a3 (n + 1) c3] 25 W4 := hY4
    replace a1 := a13.kp1 k4 (by omega)
    replace a2 := (a23.kp1 k4 (by omega)).drew
    replace hB := below_at hB3 k4 (by omega)
    clear k4 hG3 hA3 hK3 hY3 a13 a23 hG2 hl2 hB2 hB3 hY22 a12 hG y0 q0 hoff hoff1 hoff2
    refine wp_region_held_drew (S := fun v => Kp [w.heap.size + 1] W4 v) (by kernel_rfl) (Kp.drew _ _) (fun hHeld => ?_)
    refine' tkH 0 (v := _) rfl (by kernel_rfl) (fun _ _ _ h => h) (yieldsIf_load_mid (by rfl) _ _ rfl yp 0 rfl [.int .u64 (k : Int), .slice a3 (n + 1) c3] _ ?hS21 Try.underlying25 rfl sizeRo) hHeld ?rest21
    case hS21 => exact fun w h => ((hY4.kp1 h (by omega)).whole)
    try simp only [yy]
    refine tkQ 1 hHeld ?_
    try simp only [yy]
    refine tkH 2 (v := ?v23) rfl (by kernel_rfl) (fun _ _ _ h => h) (Or.inl ⟨by rfl, ?hy23⟩) hHeld ?rest23
    case hy23 => (intro w hSw; have hc := (a1.kp1 hSw (by omega)).cell 0 (.int .u64 (l : Int)) rfl; clear hSw; go_simp; try with_reducible rfl)
    try simp only [yy]
    refine tkQ 3 hHeld ?_
    try simp only [yy]
    refine rd1 4 (fun K hK => ?_)
    rw [if_pos (by rfl)]
    refine wp_store_all 25 _ _ rfl (cells := #[.int .u64 (k : Int), .slice a3 (n + 1) c3]) a2 rfl rfl sizeRo rfl (ro_one _ _ _ _) ?_
    intro w9 b9 k9
    have hG9 := (hG4.below (Below.drew (Below.refl _ _))).away k9 hoff4
    refine hK.out _ _ (hHeld.trans k9) (fun hHeld => ?_)
    clear hK K k9
    try simp only [yy]
    refine tkQ 5 hHeld ?_
    try simp only [yy]
    refine tkQ 6 hHeld ?_
    try simp only [yy]
    refine wpAnyH_done (by kernel_rfl) ?_ _
    go_wp2_with fail
    refine bodyPost_ret (w := w9) (v := .tuple #[.agg #[.int .u64 (k : Int), .slice a3 (n + 1) c3], .int .u64 (k : Int), .int .i64 0]) (ret_ctt rfl rfl b9 Try.underlying25 rfl sizeRo rfl rfl) rfl ⟨HO w9 a3 c3 hG9, below_at hB hHeld (by omega)⟩

end Go.Proofs.Ythhloomoiihfnaa
