/-
  The law GroupStays, where nothing is done: it returns true.
  The table and the entry are such.
-/
import Derived.Test.YthkomehnhadmlaaStM
import Derived.Test.YthkomehnhadmlaaGrF
import Derived.Test.YthkomehnhadmlaaGrR
import Derived.WalkKit
import Derived.ProofKit
namespace Go.Proofs.Ythkomehnhadmlaa
set_option linter.unusedSimpArgs false
open Go.Sort Go.ChangeShapes Go.WideShapes Go.ChangeAt Go.RowKit
set_option linter.unusedVariables false
set_option linter.unusedSimpArgs false
set_option maxRecDepth 10000

set_option maxHeartbeats 8000000 in
theorem walk1 (la : Option Addr) (L : List Mr) (lc : Nat) (lz : L.length * 24 ≤ 140737488351232) (lk : L.length ≤ lc) (lm : lc ≤ maxLen) (ls : ∀ x ∈ L, x.fit) (e : En) (d : Int) (hm : mayMB L = true) (hd : didM e.k ⟨e.g, d, e.se⟩ L = false) (w : World) (hL : Li Mr.vals 0 la L w) :
    Calls Try.prog 4 #[.slice la L.length lc, .agg e.arr, .int .i64 d] w fun e w' => e = .returned (.bool true) ∧ Below w.heap.size w w' := by
  have b0 := blk_new w e.arr 25
  have hB := below_box w (.cells e.arr 25)
  have pM := gmay_ok L la lc (by omega)
  rw [hm] at pM
  obtain ⟨x, hx⟩ : ∃ x : Mr, Hid (⟨e.g, d, e.se⟩ = x) := ⟨_, rfl⟩
  have lm2 : lc ≤ 9223372036854775807 := by simp only [maxLen] at lm; omega
  have hmm := (mayMB_iff L).1 hm
  rw [hx.out] at hd
  have lA := app_len e.k x L
  have g1 := app_again e.k x L
  have hMA : mayMB (appM e.k x L) = true := (mayMB_iff _).2 (may_app hmm)
  have hMK : mayMB (keepM (fun i => if i = 0 ∨ i = 2 then 1 else 0) (appM e.k x L)) = true := (mayMB_iff _).2 (may_subM (may_app hmm) List.filter_sublist)
  have hHas : ∀ y ∈ L, y ≠ x → hasM3 y (appM e.k x L) = true := fun y hy hne => has_after hy hne
  have e9 := did_none hd
  have pA := gapply_ok d e L la lc (by omega) lk lm2
  have pB := fun a c h1 h2 => gapply_ok d e (appM e.k x L) a c (by omega) h1 h2
  have pN := fun a c => gmay_ok (appM e.k x L) a c (by omega)
  have pS := fun a b c d => rsameM_ok (appM e.k x L) a b c d (by omega)
  have pK := fun a c => gkeep_ok (fun i => if i = 0 ∨ i = 2 then 1 else 0) (appM e.k x L) a c (by omega)
  have pQ := fun a c => gmay_ok (keepM (fun i => if i = 0 ∨ i = 2 then 1 else 0) (appM e.k x L)) a c (by have : (keepM (fun i => if i = 0 ∨ i = 2 then 1 else 0) (appM e.k x L)).length ≤ (appM e.k x L).length := List.length_filter_le _ _; omega)
  have pH := fun y a c => rhas_ok y (appM e.k x L) a c (by omega)
  have pT := rhas_ok x L la lc (by omega)
  unfold AppM at pA pB
  unfold MadeMr at pK
  simp only [hx.out] at pA pB
  rw [hMA] at pN
  rw [hMK] at pQ
  rw [g1.1, g1.2] at pB
  rw [hd] at pA
  rw [e9] at pA pB pN pS pK pQ pH hHas lA
  generalize keepM (fun i => if i = 0 ∨ i = 2 then 1 else 0) L = K at pK pQ
  generalize K.length = nK at pK pQ
  obtain ⟨nl, hnl⟩ : ∃ n, Hid (L.length = n) := ⟨_, rfl⟩
  rw [hnl.out] at lz pM pT ⊢
  rw [hnl.out] at pA pB pN pS pK pH
  clear e9
  replace hHas : Hid _ := hHas
  clear lA hMA hMK hmm hm hd g1
  go_enter Try.func4, Try.ntmps4
  go_upto_region 1 with fail
  try simp only [Act.put]
  generalize hW : w.alloc (Obj.cells e.arr 25) = W at b0 hB ⊢
  clear hW
  go_wp2_with fail
  refine (fixed_ok _).mono ?_
  rintro r w1 ⟨rfl, hb⟩
  replace b0 := b0.below hb
  replace hB := below_next hB hb
  clear hb 
  go_wp2_with fail
  refine (pM _ (hL.below hB)).mono ?_
  rintro r w2 ⟨rfl, hb⟩
  replace b0 := b0.below hb
  replace hB := below_next hB hb
  clear hb pM
  go_wp2_with (refine load_blk rfl 25 _ rfl b0 rfl Try.underlying25 rfl (En.size e) ?_)
  refine (pA _ (hL.below hB)).mono ?_
  rintro r w3 ⟨⟨aA, cA, rfl, hA⟩, hb⟩
  replace b0 := b0.below hb
  replace hB := below_next hB hb
  have kA := hA.cap2
  replace hA := hA.li.mono (Nat.zero_le _)
  clear hb pA
  have q2 : w3.cell? ⟨w.heap.size, 2, none⟩ = some (.int .i64 e.g) := b0.cell 2 _ rfl
  have q3 : w3.cell? ⟨w.heap.size, 3, none⟩ = some (.int .u64 (e.se : Int)) := b0.cell 3 _ rfl
  have b9 := blk_new w3 x.arr 35
  have hb := below_box w3 (.cells x.arr 35)
  go_upto_region 5 with (go_big_may; first | (refine build_as rfl 35 #[(0, .tmp 30), (1, .tmp 31), (2, .tmp 33)] rfl (C := x.arr) ?_ ?_; (rw [← hx.out]; kernel_rfl)) | refine alloc_zero zeroMr rfl rfl ?_ | refine store_new rfl 35 _ _ rfl (cells := x.arr) rfl rfl sizeMr rfl x.arr_one ?_)
  try simp only [Act.put, List.setIfInBounds_toArray, List.set_cons_zero, List.set_cons_succ]
  generalize w3.alloc (Obj.cells x.arr 35) = w4 at b9 hb ⊢
  replace b0 := b0.below hb
  replace hA := hA.below hb
  replace hB := below_next hB hb
  generalize hz9 : w3.heap.size = z9 at b9 ⊢
  clear hb q2 q3 hz9 hx
  go_wp2_with fail
  refine (pN _ _ _ hA).mono ?_
  rintro r w5 ⟨rfl, hb⟩
  replace b0 := b0.below hb
  replace b9 := b9.below hb
  replace hA := hA.below hb
  replace hB := below_next hB hb
  clear hb pN
  go_wp2_with fail
  refine (pS _ _ _ _ _ hA (hL.below hB)).mono ?_
  rintro r w6 ⟨rfl, hb⟩
  replace b0 := b0.below hb
  replace b9 := b9.below hb
  replace hA := hA.below hb
  replace hB := below_next hB hb
  clear hb 
  go_upto_region 7 with fail
  try simp only [Act.put, List.setIfInBounds_toArray, List.set_cons_zero, List.set_cons_succ]
  refine wp_region_held_drew (S := fun v => Below w6.heap.size w6 v) (by kernel_rfl) ((Below.refl _ _).drew) (fun hHeld => ?_)
  refine tkQ 0 hHeld ?_
  try simp only [yy]
  refine tkQ 1 hHeld ?_
  try simp only [yy]
  refine tkU 2 hHeld ?_
  try simp only [yy]
  refine tkU 3 hHeld ?_
  try simp only [yy]
  refine tkU 4 hHeld ?_
  try simp only [yy]
  refine tkU 5 hHeld ?_
  try simp only [yy]
  refine tkU 6 hHeld ?_
  try simp only [yy]
  refine tkU 7 hHeld ?_
  try simp only [yy]
  refine tkU 8 hHeld ?_
  try simp only [yy]
  refine tkQ 9 hHeld ?_
  try simp only [yy]
  refine tkQ 10 hHeld ?_
  try simp only [yy]
  refine tkQ 11 hHeld ?_
  try simp only [yy]
  refine tkQ 12 hHeld ?_
  try simp only [yy]
  refine tkU 13 hHeld ?_
  try simp only [yy]
  refine tkU 14 hHeld ?_
  try simp only [yy]
  refine tkU 15 hHeld ?_
  try simp only [yy]
  refine tkU 16 hHeld ?_
  try simp only [yy]
  refine tkU 17 hHeld ?_
  try simp only [yy]
  refine tkU 18 hHeld ?_
  try simp only [yy]
  refine tkU 19 hHeld ?_
  try simp only [yy]
  refine tkQ 20 hHeld ?_
  try simp only [yy]
  refine tkQ 21 hHeld ?_
  try simp only [yy]
  refine wpAnyH_done (by kernel_rfl) ?_ _
  replace b0 := b0.below hHeld
  replace b9 := b9.below hHeld
  replace hA := hA.below hHeld
  replace hB := below_next hB hHeld
  clear hHeld
  clear pT
  go_wp2_with fail
  go_loopw [10] (fun iv wr => ∃ j : Nat, j ≤ nl ∧ iv = .int .i64 j ∧ Blk w.heap.size e.arr 25 wr ∧ Blk z9 x.arr 35 wr ∧ Li Mr.vals 0 aA L wr ∧ Below w.heap.size w wr) (fun iv _ => nl - (intOf iv).toNat)
  case atStart => exact ⟨0, by omega, rfl, b0, b9, hA, hB⟩
  case round =>
    clear b0 b9 hA hB
    obtain ⟨j, hj, rfl, b0, b9, hA, hB⟩ := hrel
    rename World => wr
    by_cases hjn : j < nl
    · have j0 : (j : Int) < (nl : Int) := by omega
      have j1 : (0 : Int) ≤ (j : Int) := by omega
      obtain ⟨k, hk⟩ : ∃ k, L[j]? = some k := ⟨_, List.getElem?_eq_getElem (by rw [hnl.out]; exact hjn)⟩
      have hSV := hL.below hB
      obtain ⟨b, o, rfl, _, _, _⟩ := hSV.at Mr.vals_length j k hk
      replace pH := pH k
      clear pB pS pK pQ kA
      by_cases hkx : k = x
      · have kK : ∀ w, (binOp .neq 35 (.agg k.vals.toArray) (.agg x.vals.toArray)).run Try.prog w = .ok (.bool false) w := neqMr k x true ((Mr.same_iff k x).2 hkx)
        clear hkx pH
        go_upto_region 12 with fail
        try simp only [Act.put, List.setIfInBounds_toArray, List.set_cons_zero, List.set_cons_succ]
        refine wp_region_held_drew (S := fun v => Below wr.heap.size wr v) (by kernel_rfl) ((Below.refl _ _).drew) (fun hHeld => ?_)
        refine tkQ 0 hHeld ?_
        try simp only [yy]
        refine tkQ 1 hHeld ?_
        try simp only [yy]
        refine tkQ 2 hHeld ?_
        try simp only [yy]
        refine' tkH 3 (v := _) rfl (by kernel_rfl) (fun _ _ _ h => h) (yieldsIf_load_mid (by rfl) _ _ rfl b (o + j * 3) rfl k.vals _ ?hS96 Try.underlying35 rfl sizeMr) hHeld ?rest96
        case hS96 => exact fun w h => ((hSV.below h).rng Mr.vals_length j k hk)
        try simp only [yy]
        refine' tkH 4 (v := _) rfl (by kernel_rfl) (fun _ _ _ h => h) (yieldsIf_load_mid (by rfl) _ _ rfl z9 0 rfl x.vals _ ?hS97 Try.underlying35 rfl sizeMr) hHeld ?rest97
        case hS97 => exact fun w h => ((b9.below h).whole)
        try simp only [yy]
        refine tkQ 5 hHeld ?_
        try simp only [yy]
        refine tkQ 6 hHeld ?_
        try simp only [yy]
        refine tkU 7 hHeld ?_
        try simp only [yy]
        refine tkU 8 hHeld ?_
        try simp only [yy]
        refine tkU 9 hHeld ?_
        try simp only [yy]
        refine tkU 10 hHeld ?_
        try simp only [yy]
        refine tkU 11 hHeld ?_
        try simp only [yy]
        refine tkU 12 hHeld ?_
        try simp only [yy]
        refine tkU 13 hHeld ?_
        try simp only [yy]
        refine tkQ 14 hHeld ?_
        try simp only [yy]
        refine wpAnyH_done (by kernel_rfl) ?_ _
        replace b0 := b0.below hHeld
        replace b9 := b9.below hHeld
        replace hA := hA.below hHeld
        replace hB := below_next hB hHeld
        clear hHeld
        go_wp2_with fail
        exact ⟨⟨j + 1, by omega, by go_num, b0, b9, hA, hB⟩, by simp [intOf]; omega⟩
      · have kK : ∀ w, (binOp .neq 35 (.agg k.vals.toArray) (.agg x.vals.toArray)).run Try.prog w = .ok (.bool true) w := neqMr k x false (Mr.same_no hkx)
        rw [hHas.out k (List.mem_of_getElem? hk) hkx] at pH
        clear hkx
        go_upto_region 12 with fail
        try simp only [Act.put, List.setIfInBounds_toArray, List.set_cons_zero, List.set_cons_succ]
        refine wp_region_held_drew (S := fun v => Below wr.heap.size wr v) (by kernel_rfl) ((Below.refl _ _).drew) (fun hHeld => ?_)
        refine tkQ 0 hHeld ?_
        try simp only [yy]
        refine tkQ 1 hHeld ?_
        try simp only [yy]
        refine tkQ 2 hHeld ?_
        try simp only [yy]
        refine' tkH 3 (v := _) rfl (by kernel_rfl) (fun _ _ _ h => h) (yieldsIf_load_mid (by rfl) _ _ rfl b (o + j * 3) rfl k.vals _ ?hS111 Try.underlying35 rfl sizeMr) hHeld ?rest111
        case hS111 => exact fun w h => ((hSV.below h).rng Mr.vals_length j k hk)
        try simp only [yy]
        refine' tkH 4 (v := _) rfl (by kernel_rfl) (fun _ _ _ h => h) (yieldsIf_load_mid (by rfl) _ _ rfl z9 0 rfl x.vals _ ?hS112 Try.underlying35 rfl sizeMr) hHeld ?rest112
        case hS112 => exact fun w h => ((b9.below h).whole)
        try simp only [yy]
        refine tkQ 5 hHeld ?_
        try simp only [yy]
        refine tkQ 6 hHeld ?_
        try simp only [yy]
        refine tkQ 7 hHeld ?_
        try simp only [yy]
        refine tkQ 8 hHeld ?_
        try simp only [yy]
        refine tkQ 9 hHeld ?_
        try simp only [yy]
        refine tkQ 10 hHeld ?_
        try simp only [yy]
        refine' tkH 11 (v := _) rfl (by kernel_rfl) (fun _ _ _ h => h) (yieldsIf_load_mid (by rfl) _ _ rfl b (o + j * 3) rfl k.vals _ ?hS119 Try.underlying35 rfl sizeMr) hHeld ?rest119
        case hS119 => exact fun w h => ((hSV.below h).rng Mr.vals_length j k hk)
        try simp only [yy]
        refine rd1 12 (fun K hK => ?_)
        go_simp
        go_wp2_with (refine (pH _ _ _ (hA.below hHeld)).mono ?_; rintro r u1 ⟨rfl, hb⟩)
        refine hK.out _ _ (below_next hHeld hb) (fun hHeld => ?_)
        clear hK K hb
        refine tkQ 13 hHeld ?_
        try simp only [yy]
        refine tkQ 14 hHeld ?_
        try simp only [yy]
        refine wpAnyH_done (by kernel_rfl) ?_ _
        replace b0 := b0.below hHeld
        replace b9 := b9.below hHeld
        replace hA := hA.below hHeld
        replace hB := below_next hB hHeld
        clear hHeld
        go_wp2_with fail
        exact ⟨⟨j + 1, by omega, by go_num, b0, b9, hA, hB⟩, by simp [intOf]; omega⟩
    · clear pH
      replace pB := pB aA cA (by rw [← hnl.out]; exact kA.1) kA.2
      go_wp2_with (refine load_blk rfl 25 _ rfl b0 rfl Try.underlying25 rfl (En.size e) ?_)
      refine (pB _ hA).mono ?_
      rintro r w11 ⟨⟨aB, cB, rfl, hBB⟩, hb⟩
      replace b0 := b0.below hb
      replace hA := hA.below hb
      replace hB := below_next hB hb
      replace hBB := hBB.li.mono (Nat.zero_le _)
      clear hb pB kA b9
      have q0 : w11.cell? ⟨w.heap.size, 0, none⟩ = some (.int .i64 e.k) := b0.cell 0 _ rfl
      have hBd : Try.prog.built 28 [(0, .int .u32 1), (1, .int .u32 0), (2, .int .u32 1)] = some (mbc (fun i => if i = 0 ∨ i = 2 then 1 else 0)) := by kernel_rfl
      go_wp2_with fail
      refine (pS _ _ _ _ _ hA hBB).mono ?_
      rintro r w12 ⟨rfl, hb⟩
      replace hA := hA.below hb
      replace hB := below_next hB hb
      clear hb pS hBB b0 q0
      go_wp2_with fail
      refine (pK _ _ _ hA).mono ?_
      rintro r w13 ⟨⟨aK, cK, rfl, hK⟩, hb⟩
      replace hK := hK.li.mono (Nat.zero_le _)
      replace hB := below_next hB hb
      clear hb pK hA hBd
      go_wp2_with fail
      refine (pQ _ _ _ hK).mono ?_
      rintro r w14 ⟨rfl, hb⟩
      replace hB := below_next hB hb
      clear hb pQ hK
      go_wp2_with fail
      go_ret
      exact ⟨rfl, hB⟩

end Go.Proofs.Ythkomehnhadmlaa
