/-
  frames' contents are of no moment for what is told, when, but for themselves
  For every play, of at most 100 deeds.
-/
import Derived.Test.YthgfpdidilolgaaGreatRows
import Derived.Test.YthgfpdidilolgaaGreatZ35
import Derived.Test.YthgfpdidilolgaaGreatClBlX
import Derived.Test.YthgfpdidilolgaaGreatCgPX
import Derived.Test.YthgfpdidilolgaaGreatCfIX
import Derived.Test.YthgfpdidilolgaaGreatClVX
import Derived.Test.YthgfpdidilolgaaGreatFrZX
import Derived.WalkKit
import Derived.ProofKit
import Derived.OpenShut
import Derived.ShutString
import Derived.SizedLaws
import Derived.ChangeOld
import Derived.Below
namespace Go.Proofs.YthgfpdidilolgaaGreat.clusterBlind
open Go.Sort Go.ChangeShapes Go.WideShapes Go.ChangeAt Go.RowKit
open Go.ChangeMaps (open_string shut_string)
set_option linter.unusedVariables false
set_option linter.unusedSimpArgs false
set_option maxRecDepth 10000
theorem own : ownKnob Tryz.prog.godebug = none := by kernel_rfl
theorem length_bytes (s : ByteArray) : s.data.toList.length = s.size := by rw [Array.length_toList]; rfl
set_option maxHeartbeats 16000000 in
theorem walk (pn pw : Int) (D : List De) (da : Option Addr) (dc : Nat) (hDc : D.length ≤ dc) (hDm : dc ≤ maxLen) (hDo : ∀ d ∈ D, d.ok) (fa : Option Addr) (G : List (Nat → En)) (fc : Nat) (gm : G.length ≤ maxLen) (w : World) (hD : Li De.vals 0 da D w) (hF : Li frv 0 fa G w) :
  Calls Tryz.prog 8 #[.agg (plv pn pw (.slice da D.length dc)), .slice fa G.length fc] w fun e w' => e = .returned (.bool true) ∧ Below w.heap.size w w' := by
 have hDm2 : D.length ≤ 9223372036854775807 := Nat.le_trans hDc hDm
 obtain ⟨nd, eD⟩ : ∃ n, Hid (D.length = n) := ⟨_, rfl⟩
 obtain ⟨ng, eG⟩ : ∃ n, Hid (G.length = n) := ⟨_, rfl⟩
 simp only [maxLen] at gm
 rw [eD.out] at hDc hDm2 ⊢
 rw [eG.out] at gm ⊢
 cases hbeg : begB pn pw with
 | false =>
  have pB := beg_no pn pw hbeg
  have b0 := blk_new w (plv pn pw (.slice da nd dc)) 24
  have hB := below_box w (.cells (plv pn pw (.slice da nd dc)) 24)
  clear hD hDo hF hDc hDm hDm2 gm eG eD
  go_enter Tryz.func8, Tryz.ntmps8
  go_upto_region 1 with fail
  generalize w.alloc (Obj.cells (plv pn pw (.slice da nd dc)) 24) = V at b0 hB ⊢
  have c0 : V.cell? ⟨w.heap.size, 0, none⟩ = some (.int .i64 pn) := b0.cell 0 _ rfl
  have c1 : V.cell? ⟨w.heap.size, 1, none⟩ = some (.int .i64 pw) := b0.cell 1 _ rfl
  go_wp2_with fail
  refine (pB _).mono ?_
  rintro r w1 ⟨rfl, hb⟩
  clear c0 c1
  replace b0 := b0.below hb
  replace hB := hB.trans (hb.mono hB.size)
  clear hb 
  have hb := below_box w1 (.cells (clc 0 (.slice none 0 0) (.slice none 0 0) (.slice none 0 0)) 29)
  have v0 := blk_new w1 (clc 0 (.slice none 0 0) (.slice none 0 0) (.slice none 0 0)) 29
  go_upto_region 2 with (go_big_may; first | refine alloc_zero zeroCl rfl rfl ?_ | refine store_new rfl 29 _ _ rfl (cells := (clc 0 (.slice none 0 0) (.slice none 0 0) (.slice none 0 0))) rfl rfl sizeCl rfl (clc_one _ _ _ _ _ _ _ _ _ _) ?_)
  try simp only [Act.put, List.setIfInBounds_toArray, List.set_cons_zero, List.set_cons_succ]
  generalize w1.alloc (Obj.cells (clc 0 (.slice none 0 0) (.slice none 0 0) (.slice none 0 0)) 29) = w2 at v0 hb ⊢
  replace b0 := b0.below hb
  replace hB := hB.trans (hb.mono hB.size)
  clear hb v0
  have c0 : w2.cell? ⟨w.heap.size, 0, none⟩ = some (.int .i64 pn) := b0.cell 0 _ rfl
  have c1 : w2.cell? ⟨w.heap.size, 1, none⟩ = some (.int .i64 pw) := b0.cell 1 _ rfl
  go_wp2_with fail
  refine (pB _).mono ?_
  rintro r w3 ⟨rfl, hb⟩
  clear c0 c1 b0
  replace hB := hB.trans (hb.mono hB.size)
  clear hb 
  have hb := below_box w3 (.cells (clc 0 (.slice none 0 0) (.slice none 0 0) (.slice none 0 0)) 29)
  have v0 := blk_new w3 (clc 0 (.slice none 0 0) (.slice none 0 0) (.slice none 0 0)) 29
  go_upto_region 3 with (go_big_may; first | refine alloc_zero zeroCl rfl rfl ?_ | refine store_new rfl 29 _ _ rfl (cells := (clc 0 (.slice none 0 0) (.slice none 0 0) (.slice none 0 0))) rfl rfl sizeCl rfl (clc_one _ _ _ _ _ _ _ _ _ _) ?_)
  try simp only [Act.put, List.setIfInBounds_toArray, List.set_cons_zero, List.set_cons_succ]
  generalize w3.alloc (Obj.cells (clc 0 (.slice none 0 0) (.slice none 0 0) (.slice none 0 0)) 29) = w4 at v0 hb ⊢
  replace hB := hB.trans (hb.mono hB.size)
  clear hb v0
  go_wp2_with fail
  refine (ufixed_ok _).mono ?_
  rintro r w5 ⟨rfl, hb⟩
  replace hB := hB.trans (hb.mono hB.size)
  clear hb 
  go_wp2_with fail
  refine (ufixed_ok _).mono ?_
  rintro r w6 ⟨rfl, hb⟩
  replace hB := hB.trans (hb.mono hB.size)
  clear hb 
  go_wp2_with fail
  go_ret
  exact ⟨rfl, hB⟩
 | true =>
  obtain ⟨n, rfl⟩ : ∃ n : Nat, pn = (n : Int) := ⟨pn.toNat, by unfold begB at hbeg; rw [decide_eq_true_eq] at hbeg; omega⟩
  have pB := beg_yes n pw hbeg
  have HP : Hid (Pr (4 * 0) (begS pw n) (begS pw n)) := Pr.first hbeg
  have b0 := blk_new w (plv (n : Int) pw (.slice da nd dc)) 24
  have hB := below_box w (.cells (plv (n : Int) pw (.slice da nd dc)) 24)
  go_enter Tryz.func8, Tryz.ntmps8
  go_upto_region 1 with fail
  generalize w.alloc (Obj.cells (plv (n : Int) pw (.slice da nd dc)) 24) = V at b0 hB ⊢
  have c0 : V.cell? ⟨w.heap.size, 0, none⟩ = some (.int .i64 (n : Int)) := b0.cell 0 _ rfl
  have c1 : V.cell? ⟨w.heap.size, 1, none⟩ = some (.int .i64 pw) := b0.cell 1 _ rfl
  go_wp2_with fail
  refine (pB _).mono ?_
  rintro r w1 ⟨⟨ca, cc, ua, uc, rfl, hca, hua⟩, hb⟩
  clear c0 c1
  have hS := begin_clv hca hua
  clear hca hua
  replace b0 := b0.below hb
  replace hB := hB.trans (hb.mono hB.size)
  clear hb 
  have hq1 := b0.lt
  have hb := below_box w1 (.cells (clc pw (.slice (some ca) n cc) (.slice (some ua) n uc) (.slice none 0 0)) 29)
  have v0 := blk_new w1 (clc pw (.slice (some ca) n cc) (.slice (some ua) n uc) (.slice none 0 0)) 29
  go_upto_region 2 with (go_big_may; first | refine alloc_zero zeroCl rfl rfl ?_ | refine store_new rfl 29 _ _ rfl (cells := (clc pw (.slice (some ca) n cc) (.slice (some ua) n uc) (.slice none 0 0))) rfl rfl sizeCl rfl (clc_one _ _ _ _ _ _ _ _ _ _) ?_)
  try simp only [Act.put, List.setIfInBounds_toArray, List.set_cons_zero, List.set_cons_succ]
  generalize w1.alloc (Obj.cells (clc pw (.slice (some ca) n cc) (.slice (some ua) n uc) (.slice none 0 0)) 29) = w2 at v0 hb ⊢
  replace b0 := b0.below hb
  replace hS := hS.below hb
  replace hB := hB.trans (hb.mono hB.size)
  clear hb 
  obtain ⟨q, hq⟩ : ∃ q, w1.heap.size = q := ⟨_, rfl⟩
  rw [hq] at v0 hq1 ⊢
  have c0 : w2.cell? ⟨w.heap.size, 0, none⟩ = some (.int .i64 (n : Int)) := b0.cell 0 _ rfl
  have c1 : w2.cell? ⟨w.heap.size, 1, none⟩ = some (.int .i64 pw) := b0.cell 1 _ rfl
  go_wp2_with fail
  refine (pB _).mono ?_
  rintro r w3 ⟨⟨ca2, cc2, ua2, uc2, rfl, hca, hua⟩, hb⟩
  clear c0 c1 pB
  have hU := begin_clv hca hua
  clear hca hua
  replace b0 := b0.below hb
  replace v0 := v0.below hb
  replace hS := hS.below hb
  replace hB := hB.trans (hb.mono hB.size)
  clear hb 
  have hq2 := v0.lt
  have hb := below_box w3 (.cells (clc pw (.slice (some ca2) n cc2) (.slice (some ua2) n uc2) (.slice none 0 0)) 29)
  have z0 := blk_new w3 (clc pw (.slice (some ca2) n cc2) (.slice (some ua2) n uc2) (.slice none 0 0)) 29
  go_upto_region 3 with (go_big_may; first | refine alloc_zero zeroCl rfl rfl ?_ | refine store_new rfl 29 _ _ rfl (cells := (clc pw (.slice (some ca2) n cc2) (.slice (some ua2) n uc2) (.slice none 0 0))) rfl rfl sizeCl rfl (clc_one _ _ _ _ _ _ _ _ _ _) ?_)
  try simp only [Act.put, List.setIfInBounds_toArray, List.set_cons_zero, List.set_cons_succ]
  generalize w3.alloc (Obj.cells (clc pw (.slice (some ca2) n cc2) (.slice (some ua2) n uc2) (.slice none 0 0)) 29) = w4 at z0 hb ⊢
  replace b0 := b0.below hb
  replace v0 := v0.below hb
  replace hS := hS.below hb
  replace hU := hU.below hb
  replace hB := hB.trans (hb.mono hB.size)
  clear hb 
  obtain ⟨z, hz⟩ : ∃ q, w3.heap.size = q := ⟨_, rfl⟩
  rw [hz] at z0 hq2 ⊢
  go_wp2_with fail
  refine (ufixed_ok _).mono ?_
  rintro r w5 ⟨rfl, hb⟩
  replace b0 := b0.below hb
  replace v0 := v0.below hb
  replace z0 := z0.below hb
  replace hS := hS.below hb
  replace hU := hU.below hb
  replace hB := hB.trans (hb.mono hB.size)
  clear hb 
  clear hq hz hbeg
  have v1 : Blk q (clc (begS pw n).wait (.slice (some ca) (begS pw n).cs.length cc) (.slice (some ua) (begS pw n).up.length uc) (.slice none (begS pw n).ls.length 0)) 29 w5 := by
   show Blk q (clc pw (.slice (some ca) (csB pw n).length cc) (.slice (some ua) (List.replicate n true).length uc) (.slice none 0 0)) 29 w5
   rw [csB_len, List.length_replicate]
   exact v0
  have z1 : Blk z (clc (begS pw n).wait (.slice (some ca2) (begS pw n).cs.length cc2) (.slice (some ua2) (begS pw n).up.length uc2) (.slice none (begS pw n).ls.length 0)) 29 w5 := by
   show Blk z (clc pw (.slice (some ca2) (csB pw n).length cc2) (.slice (some ua2) (List.replicate n true).length uc2) (.slice none 0 0)) 29 w5
   rw [csB_len, List.length_replicate]
   exact z0
  clear v0 z0
  go_wp2_with fail
  go_loopw [9] (fun iv wr => ∃ (i : Nat) (S U : Cs) (ca ua : Addr) (la : Option Addr) (cc uc lc : Nat) (ca2 ua2 : Addr) (la2 : Option Addr) (cc2 uc2 lc2 : Nat), i ≤ nd ∧ i ≤ 100 ∧ iv = .int .i64 i ∧ Hid (Pr (4 * i) S U) ∧ Blk q (clc S.wait (.slice (some ca) S.cs.length cc) (.slice (some ua) S.up.length uc) (.slice la S.ls.length lc)) 29 wr ∧ Blk z (clc U.wait (.slice (some ca2) U.cs.length cc2) (.slice (some ua2) U.up.length uc2) (.slice la2 U.ls.length lc2)) 29 wr ∧ Clv S ca ua la wr ∧ Clv U ca2 ua2 la2 wr ∧ Blk w.heap.size (plv (n : Int) pw (.slice da nd dc)) 24 wr ∧ Below w.heap.size w wr) (fun iv _ => 1000 - (intOf iv).toNat)
  case atStart => exact ⟨0, _, _, ca, ua, none, cc, uc, 0, ca2, ua2, none, cc2, uc2, 0, by omega, by omega, rfl, HP, v1, z1, hS, hU, b0, hB⟩
  case round =>
   clear v1 z1 hS hU b0 hB HP
   obtain ⟨i, S, U, ca, ua, la, cc, uc, lc, ca2, ua2, la2, cc2, uc2, lc2, hiN, hi2, rfl, HI, v0, z0, hS, hU, b0, hB⟩ := hrel
   rename World => V
   have cL : V.cell? ⟨w.heap.size, 2, none⟩ = some (.slice da nd dc) := b0.cell 2 _ rfl
   by_cases hjn : i < nd
   ·have j0 : (i : Int) < (nd : Int) := by omega
    by_cases hj2 : i < 100
    ·have j2 : (i : Int) < 100 := by omega
     have j1 : (0 : Int) ≤ (i : Int) := by omega
     obtain ⟨d, hd⟩ : ∃ d, D[i]? = some d := ⟨_, List.getElem?_eq_getElem (by rw [eD.out]; exact hjn)⟩
     have hdo : Hid d.ok := hDo d (List.mem_of_getElem? hd)
     have hDV : Li De.vals 0 da D V := hD.below hB
     have hFV : Li frv 0 fa G V := hF.below hB
     obtain ⟨eb, eo, rfl, _, hebl, her⟩ := hDV.at De.vals_length i d hd
     obtain ⟨f, hf⟩ : ∃ f, Hid ((G[i]?).getD noFr = f) := ⟨_, rfl⟩
     have pt := fun u h => step1 HI.out (by omega) (ca := ca) (ua := ua) (la := la) cc uc lc hdo.out u h
     have ps := fun u h => step2 HI.out (by omega) (ca := ca2) (ua := ua2) (la := la2) cc2 uc2 lc2 (De.with_ok hdo.out f) u h
     obtain ⟨K1, hK1⟩ : ∃ c, Hid ((clc S.wait (.slice (some ca) S.cs.length cc) (.slice (some ua) S.up.length uc) (.slice la S.ls.length lc)) = c) := ⟨_, rfl⟩
     obtain ⟨K2, hK2⟩ : ∃ c, Hid ((clc U.wait (.slice (some ca2) U.cs.length cc2) (.slice (some ua2) U.up.length uc2) (.slice la2 U.ls.length lc2)) = c) := ⟨_, rfl⟩
     have hs1 : (Tryz.prog.info? 29).map (·.size) = some K1.size := by rw [← hK1.out]; exact sizeCl
     have hs2 : (Tryz.prog.info? 29).map (·.size) = some K2.size := by rw [← hK2.out]; exact sizeCl
     rw [hK1.out] at v0 pt
     rw [hK2.out] at z0 ps
     clear hDV
     have hqV := v0.lt
     have hzV := z0.lt
     have hpV := b0.lt
     have hUo := hU.offN (Nat.le_refl _)
     have hb := below_box V (.cells d.arr 45)
     have x0 := blk_new V d.arr 45
     go_upto_region 9 with (go_big_may; first | refine load_range rfl 45 _ rfl (o := eo + i * 42) d.vals her rfl Tryz.underlying45 rfl sizeDe ?_ | refine alloc_zero zeroDe rfl rfl ?_ | refine store_new rfl 45 _ _ rfl (cells := d.arr) rfl rfl sizeDe rfl d.arr_one ?_)
     try simp only [Act.put, List.setIfInBounds_toArray, List.set_cons_zero, List.set_cons_succ]
     generalize V.alloc (Obj.cells d.arr 45) = V1 at x0 hb ⊢
     clear her cL
     replace hFV := hFV.below hb
     replace v0 := v0.below hb
     replace z0 := z0.below hb
     replace hS := hS.below hb
     replace hU := hU.below hb
     replace b0 := b0.below hb
     replace hB := hB.trans (hb.mono hB.size)
     clear hb 
     obtain ⟨p, hp⟩ : ∃ p, V.heap.size = p := ⟨_, rfl⟩
     rw [hp] at x0 hqV hzV hpV hUo ⊢
     have hpl := x0.lt
     go_wp2_with (first | refine load_blk rfl 29 _ rfl v0 rfl Tryz.underlying29 rfl hs1 ?_ | refine load_blk rfl 45 _ rfl x0 rfl Tryz.underlying45 rfl sizeDe ?_)
     refine (pt _ hS).mono ?_
     rintro r w3 ⟨⟨KA, S1, g1, cg1, ub1, cu1, la1, cl1, ta1, ct1, rfl, hKA, hN1, hcap1, hS1, hT1, hg1, hu1, hk1⟩, hb⟩
     clear pt hS hs1
     replace hFV := hFV.below hb
     replace v0 := v0.below hb
     replace z0 := z0.below hb
     replace hU := hU.below hb
     replace b0 := b0.below hb
     replace x0 := x0.below hb
     replace hB := hB.trans (hb.mono hB.size)
     clear hb 
     have hKA : Hid (KpL S.cs KA) := hKA
     have hN1 : Hid (Nxt anyW ⟨S.wait, KA, S.up, S.ls, []⟩ d S1) := hN1
     clear hcap1
     obtain ⟨n1, e1⟩ : ∃ n, Hid (S1.cs.length = n) := ⟨_, rfl⟩
     obtain ⟨n2, e2⟩ : ∃ n, Hid (S1.up.length = n) := ⟨_, rfl⟩
     obtain ⟨n3, e3⟩ : ∃ n, Hid (S1.ls.length = n) := ⟨_, rfl⟩
     obtain ⟨n4, e4⟩ : ∃ n, Hid (S1.t.length = n) := ⟨_, rfl⟩
     obtain ⟨wt3, e5⟩ : ∃ n, Hid (S1.wait = n) := ⟨_, rfl⟩
     rw [e1.out, e2.out, e3.out, e4.out, e5.out]
     have hOD := hS1.offD x0 hpl hg1 hu1 hk1
     have hOT := td_offD hT1 x0
     have hw3 := x0.lt
     clear hg1 hu1 hk1
     have hb := below_box w3 (.cells (clc wt3 (.slice (some ⟨g1, 0, none⟩) n1 cg1) (.slice (some ⟨ub1, 0, none⟩) n2 cu1) (.slice la1 n3 cl1)) 29)
     have y0 := blk_new w3 (clc wt3 (.slice (some ⟨g1, 0, none⟩) n1 cg1) (.slice (some ⟨ub1, 0, none⟩) n2 cu1) (.slice la1 n3 cl1)) 29
     go_upto_region 10 with (go_big_may; first | refine alloc_zero zeroCl rfl rfl ?_ | refine store_new rfl 29 _ _ rfl (cells := (clc wt3 (.slice (some ⟨g1, 0, none⟩) n1 cg1) (.slice (some ⟨ub1, 0, none⟩) n2 cu1) (.slice la1 n3 cl1))) rfl rfl sizeCl rfl (clc_one _ _ _ _ _ _ _ _ _ _) ?_)
     try simp only [Act.put, List.setIfInBounds_toArray, List.set_cons_zero, List.set_cons_succ]
     generalize w3.alloc (Obj.cells (clc wt3 (.slice (some ⟨g1, 0, none⟩) n1 cg1) (.slice (some ⟨ub1, 0, none⟩) n2 cu1) (.slice la1 n3 cl1)) 29) = V4 at y0 hb ⊢
     replace hFV := hFV.below hb
     replace v0 := v0.below hb
     replace z0 := z0.below hb
     replace hU := hU.below hb
     replace b0 := b0.below hb
     replace x0 := x0.below hb
     replace hS1 := hS1.below hb
     replace hT1 := hT1.below hb
     replace hB := hB.trans (hb.mono hB.size)
     clear hb 
     obtain ⟨y, hy⟩ : ∃ y, w3.heap.size = y := ⟨_, rfl⟩
     rw [hy] at y0 hw3 ⊢
     -- d.Frame = api.Frame{}
     go_upto_region 11 with (go_big_may; first | (refine build_as rfl 43 #[] rfl (C := frc noFr) ?_ ?_; kernel_rfl) | (refine store_part rfl 43 _ _ rfl (off := 6) (cells := frc noFr) x0 rfl rfl sizeFr (show 6 + 36 ≤ 42 by decide) (frc_one _) ?_; intro wF x5 k5; rw [De.putf] at x5))
     try simp only [Act.put]
     replace v0 := v0.kp1 k5 (by omega)
     replace z0 := z0.kp1 k5 (by omega)
     replace b0 := b0.kp1 k5 (by omega)
     replace y0 := y0.kp1 k5 (by omega)
     replace hS1 := hS1.kp k5 hOD
     replace hT1 := hT1.off k5 (by simpa using hOT)
     replace hB := hB.trans (k5.below1 (by omega) hB.size)
     replace hU := hU.kp k5 hUo
     replace hFV := hF.below hB
     clear k5 x0
     obtain ⟨T0, hT0⟩ : ∃ T, Hid (decide (i < ng) = T) := ⟨_, rfl⟩
     go_cut [66] from 63 to 65 (fun v wx => v = .bool T0 ∧ wx = wF)
     case first =>
      clear ps
      by_cases h0 : i < ng
      ·have g0 : (i : Int) < (ng : Int) := by omega
       obtain rfl : T0 = true := by rw [← hT0.out]; simp [h0]
       go_wp2_with fail
       go_meet
       exact ⟨rfl, rfl⟩
      ·have g0 : ¬ (i : Int) < (ng : Int) := by omega
       obtain rfl : T0 = false := by rw [← hT0.out]; simp [h0]
       go_wp2_with fail
       go_meet
       exact ⟨rfl, rfl⟩
     case rest =>
     obtain ⟨rfl, hwc⟩ := hcut
     rename World => wG
     subst hwc
     go_upto_if 66 with fail
     go_cut [10] from 67 to 71 (fun v wx => v = .pointer (some ⟨p, 0, none⟩) ∧ Blk p (d.with f).arr 45 wx ∧ Kp [p] wG wx)
     case first =>
      clear ps
      by_cases h0 : i < ng
      ·obtain rfl : T0 = true := by rw [← hT0.out]; simp [h0]
       have g0 : (i : Int) < (ng : Int) := by omega
       obtain ⟨g, hg⟩ : ∃ g, G[i]? = some g := ⟨_, List.getElem?_eq_getElem (by rw [eG.out]; exact h0)⟩
       obtain rfl : f = g := by rw [← hf.out, hg]; rfl
       obtain ⟨gb, go, rfl, _, _, hgr⟩ := hFV.at frv_length i f hg
       clear hf hg hFV hT0
       go_wp2_with (first | refine load_range rfl 43 _ rfl (o := go + i * 36) (frv f) hgr rfl Tryz.underlying43 rfl sizeFr ?_ | (refine store_part rfl 43 _ _ rfl (off := 6) (cells := frc f) x5 rfl rfl sizeFr (show 6 + 36 ≤ 42 by decide) (frc_one _) ?_; intro w7 b7 k7; rw [De.putf, De.with_with] at b7))
       go_meet
       exact ⟨rfl, b7, k7⟩
      ·obtain rfl : T0 = false := by rw [← hT0.out]; simp [h0]
       have hg : G[i]? = none := List.getElem?_eq_none (by rw [eG.out]; omega)
       obtain rfl : f = noFr := by rw [← hf.out, hg]; rfl
       clear hf hg hT0 hFV
       go_wp2_with fail
       go_meet
       exact ⟨rfl, x5, Kp.refl _ _⟩
     case rest =>
      clear hf hT0 hFV x5
      obtain ⟨rfl, x0, k5⟩ := hcut
      rename World => w6
      replace v0 := v0.kp1 k5 (by omega)
      replace z0 := z0.kp1 k5 (by omega)
      replace b0 := b0.kp1 k5 (by omega)
      replace y0 := y0.kp1 k5 (by omega)
      replace hS1 := hS1.kp k5 hOD
      replace hT1 := hT1.off k5 (by simpa using hOT)
      replace hU := hU.kp k5 hUo
      replace hB := hB.trans (k5.below1 (by omega) hB.size)
      clear k5 hOD hOT hUo
      have hy6 := y0.lt
      go_wp2_with (first | refine load_blk rfl 29 _ rfl z0 rfl Tryz.underlying29 rfl hs2 ?_ | refine load_blk rfl 45 _ rfl x0 rfl Tryz.underlying45 rfl sizeDe ?_)
      refine (ps _ hU).mono ?_
      rintro r w7 ⟨⟨KB, U1, g2, cg2, ub2, cu2, lb1, cl2, tb1, ct2, rfl, hKB, hN2, hcap2, hU1, hT2, _, _, _⟩, hb⟩
      clear ps hU x0 hcap2 hs2
      replace v0 := v0.below hb
      replace z0 := z0.below hb
      replace b0 := b0.below hb
      replace y0 := y0.below hb
      replace hS1 := hS1.below hb
      replace hT1 := hT1.below hb
      replace hB := hB.trans (hb.mono hB.size)
      clear hb 
      obtain ⟨hPr, ht4⟩ := HI.out.next hKA.out hKB f hdo.out hN1.out hN2
      have HJ : Hid (Pr (4 * (i + 1)) S1 U1) := hPr
      have f1 : Hid (U1.cs.length = n1) := by have := hPr.al.len; rw [e1.out] at this; exact this.symm
      have f2 : Hid (U1.up.length = n2) := by have := hPr.al.up; show U1.up.length = n2; rw [← this]; exact e2.out
      have f3 : Hid (U1.ls.length = n3) := by have := hPr.al.ls.1; rw [e3.out] at this; exact this.symm
      have f4 : Hid (U1.t.length = n4) := by have := hPr.len_t; rw [e4.out] at this; exact this
      have f5 : Hid (U1.wait = wt3) := by have := hPr.al.wait; rw [e5.out] at this; exact this.symm
      rw [f1.out, f2.out, f3.out, f4.out, f5.out]
      rw [e4.out] at ht4
      have hn1 : n1 ≤ 8 := by rw [← e1.out]; exact hPr.oS.n8
      have hn3 : n3 ≤ 4096 := by rw [← e3.out]; exact hPr.oS.l
      clear hKB hN2 hKA hN1 HI
      have hw7 := y0.lt
      have hb := below_box w7 (.cells (clc wt3 (.slice (some ⟨g2, 0, none⟩) n1 cg2) (.slice (some ⟨ub2, 0, none⟩) n2 cu2) (.slice lb1 n3 cl2)) 29)
      have v2 := blk_new w7 (clc wt3 (.slice (some ⟨g2, 0, none⟩) n1 cg2) (.slice (some ⟨ub2, 0, none⟩) n2 cu2) (.slice lb1 n3 cl2)) 29
      go_upto_region 14 with (go_big_may; first | refine alloc_zero zeroCl rfl rfl ?_ | refine store_new rfl 29 _ _ rfl (cells := (clc wt3 (.slice (some ⟨g2, 0, none⟩) n1 cg2) (.slice (some ⟨ub2, 0, none⟩) n2 cu2) (.slice lb1 n3 cl2))) rfl rfl sizeCl rfl (clc_one _ _ _ _ _ _ _ _ _ _) ?_)
      try simp only [Act.put, List.setIfInBounds_toArray, List.set_cons_zero, List.set_cons_succ]
      generalize w7.alloc (Obj.cells (clc wt3 (.slice (some ⟨g2, 0, none⟩) n1 cg2) (.slice (some ⟨ub2, 0, none⟩) n2 cu2) (.slice lb1 n3 cl2)) 29) = V8 at v2 hb ⊢
      replace v0 := v0.below hb
      replace z0 := z0.below hb
      replace b0 := b0.below hb
      replace y0 := y0.below hb
      replace hS1 := hS1.below hb
      replace hT1 := hT1.below hb
      replace hU1 := hU1.below hb
      replace hT2 := hT2.below hb
      replace hB := hB.trans (hb.mono hB.size)
      clear hb 
      obtain ⟨v, hv⟩ : ∃ y, w7.heap.size = y := ⟨_, rfl⟩
      rw [hv] at v2 hw7 ⊢
      -- what was told
      obtain ⟨TB, hTB⟩ : ∃ l, S1.t.map Td.bare = l := ⟨_, rfl⟩
      have hTB2 : U1.t.map Td.bare = TB := by rw [← hTB]; exact hPr.al.t.symm
      have n5 : TB.length = n4 := by rw [← hTB, List.length_map]; exact e4.out
      have pA := fun u h => blank_ok S1.t ta1 ct1 (by rw [e4.out]; omega) u h
      have pB2 := fun u h => blank_ok U1.t tb1 ct2 (by rw [f4.out]; omega) u h
      have pQ := fun a b c d u h1 h2 => rsameTd_ok TB a b c d (by omega) u h1 h2
      rw [hTB, e4.out] at pA
      rw [hTB2, f4.out] at pB2
      simp only [MadeTd, n5] at pA pB2
      simp only [n5] at pQ
      clear hTB hTB2 n5 ht4 hPr hp hy hv
      go_wp2_with fail
      refine (pA _ hT1).mono ?_
      rintro r w9 ⟨⟨a9, c9, rfl, l9⟩, hb⟩
      clear pA hT1
      replace v0 := v0.below hb
      replace z0 := z0.below hb
      replace b0 := b0.below hb
      replace y0 := y0.below hb
      replace v2 := v2.below hb
      replace hS1 := hS1.below hb
      replace hU1 := hU1.below hb
      replace hT2 := hT2.below hb
      replace hB := hB.trans (hb.mono hB.size)
      clear hb 
      go_wp2_with fail
      refine (pB2 _ hT2).mono ?_
      rintro r w10 ⟨⟨a10, c10, rfl, l10⟩, hb⟩
      clear pB2 hT2
      replace l9 := l9.below hb
      replace v0 := v0.below hb
      replace z0 := z0.below hb
      replace b0 := b0.below hb
      replace y0 := y0.below hb
      replace v2 := v2.below hb
      replace hS1 := hS1.below hb
      replace hU1 := hU1.below hb
      replace hB := hB.trans (hb.mono hB.size)
      clear hb 
      go_wp2_with fail
      refine (pQ _ _ _ _ _ (l9.li.mono (Nat.zero_le _)) (l10.li.mono (Nat.zero_le _))).mono ?_
      rintro r W9 ⟨rfl, hb⟩
      clear pQ l9 l10
      replace v0 := v0.below hb
      replace z0 := z0.below hb
      replace b0 := b0.below hb
      replace y0 := y0.below hb
      replace v2 := v2.below hb
      replace hS1 := hS1.below hb
      replace hU1 := hU1.below hb
      replace hB := hB.trans (hb.mono hB.size)
      clear hb 
      have z1 : W9.cell? ⟨y, 3, none⟩ = some (.slice la1 n3 cl1) := y0.cell 3 _ rfl
      have z2 : W9.cell? ⟨v, 3, none⟩ = some (.slice lb1 n3 cl2) := v2.cell 3 _ rfl
      have z3 : W9.cell? ⟨y, 1, none⟩ = some (.slice (some ⟨g1, 0, none⟩) n1 cg1) := y0.cell 1 _ rfl
      have z4 : W9.cell? ⟨v, 1, none⟩ = some (.slice (some ⟨g2, 0, none⟩) n1 cg2) := v2.cell 1 _ rfl
      have z5 : ((n3 : Int) != (n3 : Int)) = false := by simp
      have z6 : ((n1 : Int) != (n1 : Int)) = false := by simp
      go_wp2_with fail
      clear z1 z2 z4 z5 z6
      go_loopw [15] (fun kv wr => ∃ k : Nat, k ≤ n1 ∧ kv = .int .i64 k ∧ Below W9.heap.size W9 wr) (fun kv _ => n1 - (intOf kv).toNat)
      case atStart => exact ⟨0, by omega, rfl, Below.refl _ _⟩
      case round =>
       obtain ⟨k, hk, rfl, hJ⟩ := hrel
       rename World => WR
       have z3 : WR.cell? ⟨y, 1, none⟩ = some (.slice (some ⟨g1, 0, none⟩) n1 cg1) := (y0.below hJ).cell 1 _ rfl
       by_cases hkn : k < n1
       ·have k0 : (k : Int) < (n1 : Int) := by omega
        have k1 : (0 : Int) ≤ (k : Int) := by omega
        obtain ⟨x, hx⟩ : ∃ x, S1.cs[k]? = some x := ⟨_, List.getElem?_eq_getElem (by rw [e1.out]; exact hkn)⟩
        obtain ⟨y', hy'⟩ : ∃ x, U1.cs[k]? = some x := ⟨_, List.getElem?_eq_getElem (by rw [f1.out]; exact hkn)⟩
        have hAC := HJ.out.al.cs k x y' hx hy'
        have hlx := (HJ.out.oS.c k x hx).2.2.1
        have hly := (HJ.out.oU.c k y' hy').2.2.1
        obtain ⟨hxn, kx⟩ := hS1.k x (List.mem_of_getElem? hx)
        obtain ⟨hyn, ky⟩ := hU1.k y' (List.mem_of_getElem? hy')
        have hx1 : ∀ w', Below W9.heap.size W9 w' → w'.rangeAt g1 (k * 189) (col x.1) := fun w' h => by
         have := (hS1.c.below h).rng cov_length k x hx
         rw [Nat.zero_add] at this
         exact this
        have hy1 : ∀ w', Below W9.heap.size W9 w' → w'.rangeAt g2 (k * 189) (col y'.1) := fun w' h => by
         have := (hU1.c.below h).rng cov_length k y' hy'
         rw [Nat.zero_add] at this
         exact this
        obtain ⟨LB, hLB⟩ : ∃ l, x.2.map Kt.bare = l := ⟨_, rfl⟩
        have hLB2 : y'.2.map Kt.bare = LB := by rw [← hLB, likes_bare _ _ hAC.L]
        have pP1 := fun u h => rplain_ok x.1 x.2 x.1.ka x.1.kc (by omega) u h
        have pP2 := fun u h => (rplain_ok y'.1 y'.2 y'.1.ka y'.1.kc (by omega) u h).mono (fun e w' h9 => (⟨h9.1.sim (fun a n k => (hAC.c a n k).symm), h9.2⟩ : Plained x.1 (y'.2.map Kt.bare) u.heap.size e w' ∧ Below u.heap.size u w'))
        have n6 : LB.length ≤ 9223372036854775807 := by rw [← hLB, List.length_map]; omega
        have pI := fun b1 j1 b2 j2 u h1 h2 => ris_ok x.1 LB b1 b2 j1 j2 n6 u h1 h2
        rw [kp_self x.1 x.2.length hxn, hLB] at pP1
        rw [kp_self y'.1 y'.2.length hyn, hLB2] at pP2
        clear hAC hlx hly hxn hyn hLB hLB2 hx hy' n6
        go_upto_region 19 with fail
        clear z3
        refine wp_region_held_drew (S := fun w' => Below W9.heap.size W9 w') (by kernel_rfl) hJ.drew (fun hHeld => ?_)
        refine tkQ 0 hHeld ?_
        try simp only [yy]
        refine tkH 1 (v := ?v2) rfl (by kernel_rfl) (fun _ _ _ h => h) (Or.inl ⟨by rfl, ?hy2⟩) hHeld ?_
        case hy2 => (intro w hSw; have hc := (y0.below hSw).cell 1 (.slice (some ⟨g1, 0, none⟩) n1 cg1) rfl; clear hSw; go_simp; try with_reducible rfl)
        try simp only [yy]
        refine tkQ 2 hHeld ?_
        try simp only [yy]
        refine tkQ 3 hHeld ?_
        try simp only [yy]
        refine' tkH 4 (v := _) rfl (by kernel_rfl) (fun _ _ _ h => h) (yieldsIf_load_mid (by rfl) _ _ rfl g1 (k * 189) rfl (col x.1) _ ?hS5 Tryz.underlying78 rfl sizeCo) hHeld ?_
        case hS5 => exact fun w h => (hx1 _ h)
        try simp only [yy]
        refine tkQ 6 hHeld ?_
        try simp only [yy]
        refine tkH 7 (v := ?v7) rfl (by kernel_rfl) (fun _ _ _ h => h) (Or.inl ⟨by rfl, ?hy7⟩) hHeld ?_
        case hy7 => (intro w hSw; have hc := (v2.below hSw).cell 1 (.slice (some ⟨g2, 0, none⟩) n1 cg2) rfl; clear hSw; go_simp; try with_reducible rfl)
        try simp only [yy]
        refine tkQ 8 hHeld ?_
        try simp only [yy]
        refine tkQ 9 hHeld ?_
        try simp only [yy]
        refine' tkH 10 (v := _) rfl (by kernel_rfl) (fun _ _ _ h => h) (yieldsIf_load_mid (by rfl) _ _ rfl g2 (k * 189) rfl (col y'.1) _ ?hS10 Tryz.underlying78 rfl sizeCo) hHeld ?_
        case hS10 => exact fun w h => (hy1 _ h)
        try simp only [yy]
        refine rd1 5 (fun K hK => ?_)
        go_simp
        go_wp2_with (refine (pP1 _ (kx.below hHeld)).mono ?_; rintro r u1 ⟨⟨b1, j1, rfl, pl1⟩, hb⟩)
        refine hK.out _ _ (hHeld.below hb) (fun hHeld => ?_)
        clear hK K hb
        refine rd1 11 (fun K hK => ?_)
        go_simp
        go_wp2_with (refine (pP2 _ (ky.below hHeld)).mono ?_; rintro r u2 ⟨⟨b2, j2, rfl, pl2⟩, hb⟩)
        replace pl1 := pl1.below hb
        refine hK.out _ _ (hHeld.below hb) (fun hHeld => ?_)
        clear hK K hb
        refine rd1 12 (fun K hK => ?_)
        go_simp
        go_wp2_with (refine (pI b1 j1 b2 j2 _ (pl1.mono (Nat.zero_le _)) (pl2.mono (Nat.zero_le _))).mono ?_; rintro r u3 ⟨rfl, hb⟩)
        replace pl1 := pl1.below hb
        replace pl2 := pl2.below hb
        refine hK.out _ _ (hHeld.below hb) (fun hHeld => ?_)
        clear hK K hb
        refine tkQ 13 hHeld ?_
        try simp only [yy]
        refine wpAnyH_done (by kernel_rfl) ?_ _
        go_wp2_with fail
        exact ⟨⟨k + 1, by omega, by go_num, hHeld⟩, by simp [intOf]; omega⟩
       ·obtain rfl : k = n1 := by omega
        have k0 : ¬ ((k : Int) < (k : Int)) := by omega
        replace y0 := y0.below hJ
        replace v2 := v2.below hJ
        have hS := hS1.below hJ
        have hU := hU1.below hJ
        replace v0 := v0.below hJ
        replace z0 := z0.below hJ
        replace b0 := b0.below hJ
        replace hB := hB.trans (hJ.mono hB.size)
        clear hS1 hU1 hJ hF hD hDo
        rw [← hK1.out] at v0
        rw [← hK2.out] at z0
        have oSq := hS.offC v0
        have oSz := hS.offC z0
        have oUq := hU.offC v0
        have oUz := hU.offC z0
        go_upto_region 21 with fail
        replace v0 := v0.drew
        replace z0 := z0.drew
        replace b0 := b0.drew
        replace hS := hS.below (Below.refl _ _).drew
        replace hU := hU.below (Below.refl _ _).drew
        replace hB := hB.drew
        refine wp_region_held_drew (S := fun w' => Blk y (clc wt3 (.slice (some ⟨g1, 0, none⟩) k cg1) (.slice (some ⟨ub1, 0, none⟩) n2 cu1) (.slice la1 n3 cl1)) 29 w' ∧ Blk v (clc wt3 (.slice (some ⟨g2, 0, none⟩) k cg2) (.slice (some ⟨ub2, 0, none⟩) n2 cu2) (.slice lb1 n3 cl2)) 29 w') (by kernel_rfl) ⟨y0.drew, v2.drew⟩ (fun hHeld => ?_)
        refine' tkH 0 (v := _) rfl (by kernel_rfl) (fun _ _ _ h => h) (yieldsIf_load_mid (by rfl) _ _ rfl y 0 rfl (clc wt3 (.slice (some ⟨g1, 0, none⟩) k cg1) (.slice (some ⟨ub1, 0, none⟩) n2 cu1) (.slice la1 n3 cl1)).toList _ ?hS12 Tryz.underlying29 rfl sizeCl) hHeld ?_
        case hS12 => exact fun w h => h.1.whole
        try simp only [yy]
        refine' tkH 1 (v := _) rfl (by kernel_rfl) (fun _ _ _ h => h) (yieldsIf_load_mid (by rfl) _ _ rfl v 0 rfl (clc wt3 (.slice (some ⟨g2, 0, none⟩) k cg2) (.slice (some ⟨ub2, 0, none⟩) n2 cu2) (.slice lb1 n3 cl2)).toList _ ?hS13 Tryz.underlying29 rfl sizeCl) hHeld ?_
        case hS13 => exact fun w h => h.2.whole
        try simp only [yy]
        refine rd1 2 (fun K hK => ?_)
        rw [if_pos (by rfl)]
        refine wp_store_all 29 _ _ rfl (cells := (clc wt3 (.slice (some ⟨g1, 0, none⟩) k cg1) (.slice (some ⟨ub1, 0, none⟩) n2 cu1) (.slice la1 n3 cl1))) v0 rfl rfl sizeCl rfl (clc_one _ _ _ _ _ _ _ _ _ _) ?_
        intro u1 hn9 hk9
        replace v0 := hn9
        replace z0 := z0.kp1 hk9 (by omega)
        replace b0 := b0.kp1 hk9 (by omega)
        replace hS := hS.kp hk9 oSq
        replace hU := hU.kp hk9 oUq
        replace hB := hB.trans (hk9.below1 (by omega) hB.size)
        refine hK.out _ _ ⟨hHeld.1.kp1 hk9 (by omega), hHeld.2.kp1 hk9 (by omega)⟩ (fun hHeld => ?_)
        clear hK K hk9 hn9
        try simp only [yy]
        refine rd1 3 (fun K hK => ?_)
        rw [if_pos (by rfl)]
        refine wp_store_all 29 _ _ rfl (cells := (clc wt3 (.slice (some ⟨g2, 0, none⟩) k cg2) (.slice (some ⟨ub2, 0, none⟩) n2 cu2) (.slice lb1 n3 cl2))) z0 rfl rfl sizeCl rfl (clc_one _ _ _ _ _ _ _ _ _ _) ?_
        intro u2 hn9 hk9
        replace z0 := hn9
        replace v0 := v0.kp1 hk9 (by omega)
        replace b0 := b0.kp1 hk9 (by omega)
        replace hS := hS.kp hk9 oSz
        replace hU := hU.kp hk9 oUz
        replace hB := hB.trans (hk9.below1 (by omega) hB.size)
        refine hK.out _ _ ⟨hHeld.1.kp1 hk9 (by omega), hHeld.2.kp1 hk9 (by omega)⟩ (fun hHeld => ?_)
        clear hK K hk9 hn9
        try simp only [yy]
        refine wpAnyH_done (by kernel_rfl) ?_ _
        clear hHeld
        rw [← e1.out, ← e2.out, ← e3.out, ← e5.out] at v0
        rw [← f1.out, ← f2.out, ← f3.out, ← f5.out] at z0
        go_wp2_with fail
        exact ⟨⟨i + 1, S1, U1, ⟨g1, 0, none⟩, ⟨ub1, 0, none⟩, la1, cg1, cu1, cl1, ⟨g2, 0, none⟩, ⟨ub2, 0, none⟩, lb1, cg2, cu2, cl2, by omega, by omega, by go_num, HJ, v0, z0, hS, hU, b0, hB⟩, by simp [intOf]; omega⟩
    ·have j2 : ¬ (i : Int) < 100 := by omega
     clear hS hU HI v0 z0
     go_wp2_with fail
     go_ret
     exact ⟨rfl, hB⟩
   ·have j0 : ¬ (i : Int) < (nd : Int) := by omega
    clear hS hU HI v0 z0
    go_wp2_with fail
    go_ret
    exact ⟨rfl, hB⟩
set_option maxRecDepth 100000 in
theorem lifted (os : Go.Os) (started : os.Started) (H : Type) (enc : TypeId × Value → H) :
  ReturnsInHanded {} Tryz.checked os 8 .any (Rows.clusterBlindSpec.pre6 enc Tryz.prog Tryz.f8 Rows.clusterBlindRow.domain false) (Rows.clusterBlindSpec.post enc Tryz.prog Tryz.f8 false true false false) := by
 refine returnsInHanded_of_change_sized (C := Tryz.checked) own started (by kernel_rfl) Tryz.func8
  (ChangeSpec.witness6 (enc := enc) (C := Tryz.checked) false ⟨#[], #[.agg (plv 0 0 (.slice none 0 0)), .slice none 0 0], []⟩ 8 (by kernel_rfl) (by kernel_rfl) (by kernel_rfl) (by kernel_rfl)) ?_
 intro W base args ds gs before hval0 hW hcnd hsz0 _
 have hval : ∀ (j : Nat) t v, Tryz.f8.params[j]? = some t → args[j]? = some v → Value.okWide Tryz.prog W .any base t v := hval0
 have hsz : (DataW.weightsEach Tryz.prog (Tryz.f8.params.toList ++ Rows.clusterBlindSpec.plain.varTypes Tryz.prog) (ds ++ gs)).all (· ≤ reachBytes) = true := hsz0
 have hW' := hW
 obtain ⟨p, q, hA0, hV, rfl, hfz, hnd⟩ := hW
 have hA : DataW.TrodAll enc Tryz.prog W 0 (fun _ => true) true Tryz.f8.params.toList args.toList ds p := hA0
 rw [Tryz.params8] at hA hval hsz
 obtain ⟨v0, vs0, d0, ds0, p0, q0, hargs, rfl, rfl, h0, r0⟩ := trodAll_cons hA
 obtain ⟨v1, vs1, d1, ds1, p1, q1, rfl, rfl, rfl, h1, r1⟩ := trodAll_cons r0
 obtain ⟨rfl, rfl, rfl⟩ := trodAll_nil r1
 obtain rfl : args = #[v0, v1] := by cases args; simp_all
 obtain ⟨rfl, rfl⟩ := trodVars_none hV
 obtain ⟨pn0, pw0, D0, da0, dc0, rfl, hc0, hm0, ho0, hD0⟩ := open_play (by obtain ⟨cs, h1, _⟩ := okWide_struct Tryz.underlying24 (hval 0 24 v0 rfl rfl); exact ⟨cs, h1⟩) (fun n hn => of_decide_eq_true (List.all_eq_true.1 hsz _ (DataW.weights_mem_each (j := 0) rfl rfl n hn))) h0
 obtain ⟨la1, L1, lc1, rfl, lm1, hS1⟩ := open_frs2 (okWide_slice Tryz.underlying68 (hval 1 68 v1 rfl rfl)) h1
 have hA2 := hA0
 clear hA0 hval0 hsz0
 simp only [List.append_nil] at hW'
 refine (walk pn0 pw0 D0 da0 dc0 hc0 hm0 ho0 la1 L1 lc1 lm1 W hD0 hS1).mono fun e W' ⟨he, bel⟩ => ?_
 subst he
 exact ⟨_, rfl, _, _, _, [], _, [], hW', trodAll_mk1 (shut_bool Tryz.underlying4 _), (stays_all laidOut bel (by kernel_rfl) hA2), rfl, bel.frame _, fun h => by cases h⟩
theorem over : Rows.clusterBlindRow.holds Tryz.pinned (OpenSpec.ofChange Rows.clusterBlindSpec) :=
 OpenClaim.holds_of_wide 8 Tryz.f8 rfl rfl rfl rfl rfl rfl rfl ⟨rfl, rfl, rfl, rfl, rfl⟩ rfl rfl rfl rfl rfl (by kernel_rfl) Tryz.func8 (by kernel_rfl)
  (of_decide_eq_true (by kernel_rfl)) (by unfold Func.isWrapper; first | (rw [if_pos (by decide +kernel)]; kernel_rfl) | (rw [if_neg (by decide +kernel)]; exact ⟨rfl, rfl⟩))
  (fun os started H enc _ => lifted os started H enc)
end Go.Proofs.YthgfpdidilolgaaGreat.clusterBlind
namespace Go.Proofs.YthgfpdidilolgaaGreat
theorem clusterBlind_holds : Rows.ClusterBlindSaid := clusterBlind.over
#print axioms clusterBlind_holds
end Go.Proofs.YthgfpdidilolgaaGreat
