/-
  Of the texts beneath these laws, in their order: GaE, GaF, CeC.
  Each theorem says its own conditions.
-/
import Derived.Test.YthgfpdidilolgaaGreatZ16
import Derived.Test.YthgfpdidilolgaaGreatZ18
import Derived.Test.YthgfpdidilolgaaGreatZ17
namespace Go.Proofs.YthgfpdidilolgaaGreat
set_option maxRecDepth 10000
set_option linter.unusedSimpArgs false
open Go.RowKit Go.Sort
set_option linter.unusedVariables false
set_option maxHeartbeats 4000000 in
theorem target_ok (c : Co) (w : World) : Calls Tryz.prog 133 #[.agg (coc c)] w fun e w' => e = .returned (.agg (mbc (targC c))) ∧ Below w.heap.size w w' := by
 obtain ⟨a0, a1, hB⟩ := two_blk (T0 := 78) (T1 := 60) (C0 := coc c) (C1 := mbc noMb) (w := w) rfl
 obtain ⟨R, hR⟩ : ∃ R, Hid (targC c = R) := ⟨_, rfl⟩
 rw [hR.out]
 go_enter Tryz.func133, Tryz.ntmps133
 go_upto_region 1 with (refine alloc_zero zeroCt rfl rfl ?_)
 try simp only [Act.put, List.setIfInBounds_toArray, List.set_cons_zero, List.set_cons_succ]
 try simp only [alloc_size]
 generalize (w.alloc (Obj.cells (coc c) 78)).alloc (Obj.cells (mbc noMb) 60) = W at a0 a1 hB ⊢
 have hb := below_box W (.cells (mbc c.cut) 60)
 have a2 := blk_new W (mbc c.cut) 60
 have hV : w.heap.size + 1 < W.heap.size := a1.lt
 go_upto_region 2 with (first | refine load_part rfl 60 _ rfl (o := 51) a0 rfl (row8 c.cut) c.p_cut Tryz.underlying60 rfl sizeCt ?_ | refine alloc_zero zeroCt rfl rfl ?_ | refine store_new rfl 60 _ _ rfl (cells := mbc c.cut) rfl rfl sizeCt rfl (mbc_one _) ?_)
 try simp only [Act.put, List.setIfInBounds_toArray, List.set_cons_zero, List.set_cons_succ]
 generalize W.alloc (Obj.cells (mbc c.cut) 60) = W2 at a2 hb ⊢
 replace a0 := a0.below hb
 replace a1 := a1.below hb
 replace hB := hB.trans (hb.mono hB.size)
 clear hb 
 generalize W.heap.size = V at a2 hV ⊢
 have c0 := a0.cell 0 (.int .i64 c.self) rfl
 go_wp2_with (refine load_part rfl 55 _ rfl (o := 43) a0 rfl (row8 c.want) c.p_want Tryz.underlying55 rfl sizeMb ?_)
 refine (others_ok c.want c.self _).mono ?_
 rintro r w1 ⟨⟨la, lc, rfl, hL⟩, hb⟩
 replace hL := hL.mono (Nat.succ_le_of_lt a2.lt)
 replace a0 := a0.below hb
 replace a1 := a1.below hb
 replace a2 := a2.below hb
 replace hB := hB.trans (hb.mono hB.size)
 clear hb c0
 obtain ⟨L, HL⟩ : ∃ L, Hid (oth c.want c.self = L) := ⟨_, rfl⟩
 have HM : Hid (∀ d ∈ L, d < 8) := fun d hd => by rw [← HL.out] at hd; exact ((mem_oth _ _ _).1 hd).1
 have hn8 := oth_len c.want c.self
 rw [HL.out] at hL hn8 ⊢
 have HR : Hid (targL c L = R) := by rw [← HL.out]; exact hR
 clear HL hR
 obtain ⟨n, hn⟩ : ∃ n, L.length = n := ⟨_, rfl⟩
 rw [hn] at hn8 ⊢
 have HN : Hid (L.length = n) := hn
 clear hn
 go_wp2_with fail
 go_loopw [15] (fun iv wr => ∃ j : Nat, j ≤ n ∧ iv = .int .i64 j ∧ Blk w.heap.size (coc c) 78 wr ∧ Blk (w.heap.size + 1) (mbc noMb) 60 wr ∧ Blk V (mbc (targL c (L.take j))) 60 wr ∧ Li nv (V + 1) la L wr ∧ Below w.heap.size w wr) (fun iv _ => n - (intOf iv).toNat)
 case atStart => exact ⟨0, by omega, rfl, a0, a1, a2, hL, hB⟩
 case round =>
  clear a0 a1 a2 hB hL
  obtain ⟨j, hj, rfl, a0, a1, a2, hL, hB⟩ := hrel
  by_cases hjn : j < n
  ·have j0 : (j : Int) < (n : Int) := by omega
   have j1 : (0 : Int) ≤ (j : Int) := by omega
   obtain ⟨d, hk⟩ : ∃ k, L[j]? = some k := ⟨_, List.getElem?_eq_getElem (by rw [HN.out]; exact hjn)⟩
   have hd := HM.out d (List.mem_of_getElem? hk)
   obtain ⟨b, o, rfl, hvb, hbl, hr⟩ := hL.at nv_length j d hk
   have c0 : wr.cell? ⟨b, o + j, none⟩ = some (.int .i64 (d : Int)) := by have := hr 0 _ rfl; simpa using this
   have d1 : (0 : Int) ≤ (d : Int) := by omega
   have d2 : (d : Int) < 8 := by omega
   have pm := matters_ok c d hd
   have HS : Hid (targL c (L.take (j + 1)) = targS c (targL c (L.take j)) d) := targL_take c L j d hk
   generalize targL c (L.take j) = u at a2 HS
   obtain ⟨t1, ht1⟩ : ∃ t, matB c d = t := ⟨_, rfl⟩
   obtain ⟨t2, ht2⟩ : ∃ t, Idn.same (c.peers d).conf c.conf = t := ⟨_, rfl⟩
   obtain ⟨t3, ht3⟩ : ∃ t, Idn.same (c.peers d).pr c.pr = t := ⟨_, rfl⟩
   have k2 : ∀ w, (binOp .eql 51 (.agg (c.peers d).conf.vals.toArray) (.agg c.conf.vals.toArray)).run Tryz.prog w = .ok (.bool t2) w := eqlIdn _ _ t2 ht2
   have k3 : ∀ w, (binOp .eql 51 (.agg (c.peers d).pr.vals.toArray) (.agg c.pr.vals.toArray)).run Tryz.prog w = .ok (.bool t3) w := eqlIdn _ _ t3 ht3
   have HG : Hid (goesB c d = ((t1 && t2) && t3)) := by show goesB c d = _; rw [goesB, ht1, ht2, ht3]
   rw [ht1] at pm
   have hp := c.p_peer d hd
   clear ht1 ht2 ht3 hk hr
   have hb := below_box wr (.cells (c.peers d).arr 75)
   have a3 := blk_new wr (c.peers d).arr 75
   go_upto_region 6 with (first | refine load_part rfl 75 _ rfl (o := 60 + d * 16) a0 rfl (c.peers d).vals hp Tryz.underlying75 rfl sizePe ?_ | refine alloc_zero zeroPe rfl rfl ?_ | refine store_new rfl 75 _ _ rfl (cells := (c.peers d).arr) rfl rfl sizePe rfl (Pe.arr_one _) ?_)
   try simp only [Act.put, List.setIfInBounds_toArray, List.set_cons_zero, List.set_cons_succ]
   generalize wr.alloc (Obj.cells (c.peers d).arr 75) = W3 at a3 hb ⊢
   replace a0 := a0.below hb
   replace a1 := a1.below hb
   replace a2 := a2.below hb
   replace hL := hL.below hb
   replace hB := hB.trans (hb.mono hB.size)
   clear hb c0
   generalize wr.heap.size = p at a3 hbl ⊢
   go_wp2_with (refine load_blk rfl 78 _ rfl a0 rfl Tryz.underlying78 rfl sizeCo ?_)
   refine (pm _).mono ?_
   rintro r w2 ⟨rfl, hb⟩
   replace a0 := a0.below hb
   replace a1 := a1.below hb
   replace a2 := a2.below hb
   replace hL := hL.below hb
   replace a3 := a3.below hb
   replace hB := hB.trans (hb.mono hB.size)
   clear hb pm hp d1 d2
   have skip : goesB c d = false → Hid (u = targL c (L.take (j + 1))) := fun h => by show u = _; rw [HS.out, targS, h]; rfl
   cases t1 with
   | false =>
    have HU := skip HG.out
    rw [HU.out] at a2
    clear skip HG HS HU k2 k3 a3
    go_wp2_with fail
    exact ⟨⟨j + 1, by omega, by go_num, a0, a1, a2, hL, hB⟩, by simp [intOf]; omega⟩
   | true =>
    cases t2 with
    | false =>
     have HU := skip HG.out
     rw [HU.out] at a2
     clear skip HG HS HU k3
     go_wp2_with (first | refine load_wpart rfl 51 _ rfl (o := 1) a3 rfl (c.peers d).conf.vals (c.peers d).p_conf Tryz.underlying51 rfl sizeIdn ?_ | refine load_wpart rfl 51 _ rfl (o := 20) a0 rfl c.conf.vals c.p_conf Tryz.underlying51 rfl sizeIdn ?_)
     exact ⟨⟨j + 1, by omega, by go_num, a0, a1, a2, hL, hB⟩, by simp [intOf]; omega⟩
    | true =>
     cases t3 with
     | false =>
      have HU := skip HG.out
      rw [HU.out] at a2
      clear skip HG HS HU
      go_wp2_with (first | refine load_wpart rfl 51 _ rfl (o := 1) a3 rfl (c.peers d).conf.vals (c.peers d).p_conf Tryz.underlying51 rfl sizeIdn ?_ | refine load_wpart rfl 51 _ rfl (o := 20) a0 rfl c.conf.vals c.p_conf Tryz.underlying51 rfl sizeIdn ?_ | refine load_wpart rfl 51 _ rfl (o := 4) a3 rfl (c.peers d).pr.vals (c.peers d).p_pr Tryz.underlying51 rfl sizeIdn ?_ | refine load_wpart rfl 51 _ rfl (o := 40) a0 rfl c.pr.vals c.p_pr Tryz.underlying51 rfl sizeIdn ?_)
      exact ⟨⟨j + 1, by omega, by go_num, a0, a1, a2, hL, hB⟩, by simp [intOf]; omega⟩
     | true =>
      have HU : Hid (maxC u (c.peers d).cut = targL c (L.take (j + 1))) := by show _ = _; rw [HS.out, targS, HG.out]; rfl
      have pu := fun (g : Nat) (U : World) (h : Blk g (flat row8 [u, (c.peers d).cut]).toArray 60 U) => union2_ok u (c.peers d).cut h
      rw [HU.out] at pu
      clear skip HG HS
      go_upto_region 7 with (first | refine load_wpart rfl 51 _ rfl (o := 1) a3 rfl (c.peers d).conf.vals (c.peers d).p_conf Tryz.underlying51 rfl sizeIdn ?_ | refine load_wpart rfl 51 _ rfl (o := 20) a0 rfl c.conf.vals c.p_conf Tryz.underlying51 rfl sizeIdn ?_ | refine load_wpart rfl 51 _ rfl (o := 4) a3 rfl (c.peers d).pr.vals (c.peers d).p_pr Tryz.underlying51 rfl sizeIdn ?_ | refine load_wpart rfl 51 _ rfl (o := 40) a0 rfl c.pr.vals c.p_pr Tryz.underlying51 rfl sizeIdn ?_)
      clear k2 k3
      go_wp2_with (first | refine load_blk rfl 60 _ rfl a2 rfl Tryz.underlying60 rfl sizeCt ?_ | refine load_part rfl 60 _ rfl (o := 7) a3 rfl (row8 (c.peers d).cut) (c.peers d).p_cut Tryz.underlying60 rfl sizeCt ?_ | (refine box_cc rfl _ _ rfl u (c.peers d).cut rfl rfl ?_; intro g w3 g2 hb gl))
      replace a0 := a0.below hb
      replace a1 := a1.below hb
      replace a2 := a2.below hb
      replace hL := hL.below hb
      replace hB := hB.trans (hb.mono hB.size)
      clear hb 
      refine (pu _ _ g2).mono ?_
      rintro r w4 ⟨rfl, hb⟩
      replace a0 := a0.below hb
      replace a1 := a1.below hb
      replace a2 := a2.below hb
      replace hL := hL.below hb
      replace hB := hB.trans (hb.mono hB.size)
      clear hb pu g2 gl HU
      go_wp2_with (refine store_part rfl 60 _ _ rfl (off := 0) (cells := mbc (targL c (L.take (j + 1)))) a2 rfl rfl sizeCt (Nat.le_refl _) (mbc_one _) ?_; intro w5 b5 k5; rw [mb_all] at b5; replace a0 := a0.kp1 k5 (by omega); replace a1 := a1.kp1 k5 (by omega); replace hL := hL.kept k5 (by intro b' o' e; injection e with e; injection e with e1 e2 e3; simp; omega); replace hB : Below w.heap.size w w5 := hB.trans (k5.below1 (by omega) hB.size))
      exact ⟨⟨j + 1, by omega, by go_num, a0, a1, b5, hL, hB⟩, by simp [intOf]; omega⟩
  ·obtain rfl : j = n := by omega
   rw [List.take_of_length_le (by rw [HN.out]; omega), HR.out] at a2
   clear HR HN HM hL
   go_wp2_with (first | refine load_blk rfl 60 _ rfl a2 rfl Tryz.underlying60 rfl sizeCt ?_ | (refine store_part rfl 60 _ _ rfl (off := 0) (cells := mbc R) a1 rfl rfl sizeCt (Nat.le_refl _) (mbc_one _) ?_; intro w9 b9 k9; rw [mb_all] at b9; have hB9 : Below w.heap.size w w9 := hB.trans (k9.below1 (by omega) hB.size)))
   exact bodyPost_ret (w := w9) (v := .agg (mbc R)) (ret_one rfl rfl b9 Tryz.underlying60 rfl sizeCt) rfl ⟨rfl, hB9⟩
set_option maxHeartbeats 2000000 in
theorem stands1_ok (c : Co) (m : Nat → Nat) (d : Nat) (hd : d < 8) (C G : Nat) (w : World) (hC : Blk C (coc c) 78 w) (hG : Blk G (mbc m) 55 w) :
  Calls Tryz.prog 202 #[.int .i64 (d : Int), .pointer (some ⟨C, 0, none⟩), .pointer (some ⟨G, 0, none⟩)] w fun e w' => e = .returned (.bool (aboveB c m d)) ∧ Below w.heap.size w w' := by
 obtain ⟨t, ht⟩ : ∃ t, decide ((c.peers d).inc = m d) = t := ⟨_, rfl⟩
 obtain ⟨v, hv⟩ : ∃ v, decide (0 < cmpId (c.peers d).pr c.pr) = v := ⟨_, rfl⟩
 have e : aboveB c m d = (t && v) := by rw [aboveB, ht, hv]
 rw [e]
 have pc := cmp_ok (c.peers d).pr c.pr
 generalize cmpId (c.peers d).pr c.pr = k at *
 have d1 : (0 : Int) ≤ (d : Int) := by omega
 have d2 : (d : Int) < 8 := by omega
 have h1 : (((c.peers d).inc : Int) == (m d : Int)) = t := by rw [← ht, Bool.eq_iff_iff, beq_iff_eq, decide_eq_true_iff]; omega
 have hp := c.p_peer d hd
 have a0 := blk_new w (c.peers d).arr 75
 have hb := below_box w (.cells (c.peers d).arr 75)
 go_enter Tryz.func202, Tryz.ntmps202
 go_upto_region 2 with (first | refine load_part rfl 75 _ rfl (o := 60 + d * 16) hC rfl (c.peers d).vals hp Tryz.underlying75 rfl sizePe ?_ | refine alloc_zero zeroPe rfl rfl ?_ | refine store_new rfl 75 _ _ rfl (cells := (c.peers d).arr) rfl rfl sizePe rfl (Pe.arr_one _) ?_)
 try simp only [Act.put, List.setIfInBounds_toArray, List.set_cons_zero, List.set_cons_succ]
 generalize w.alloc (Obj.cells (c.peers d).arr 75) = W at a0 hb ⊢
 have hB0 := hb.drew
 replace hC := hC.below hb
 replace hG := hG.below hb
 clear hb e ht hp
 cases t with
 | true =>
  refine wp_region_held_drew (S := fun w' => Blk w.heap.size (c.peers d).arr 75 w' ∧ Blk C (coc c) 78 w' ∧ Blk G (mbc m) 55 w') (by kernel_rfl) ⟨a0.drew, hC.drew, hG.drew⟩ (fun hHeld => ?_)
  refine tkQ 0 hHeld ?_
  try simp only [yy]
  refine tkH 1 (v := ?v60) rfl (by kernel_rfl) (fun _ _ _ h => h) (Or.inl ⟨by rfl, ?hy60⟩) hHeld ?_
  case hy60 => (intro w hSw; have hc := hSw.1.cell 0 (.int .u32 ((c.peers d).inc : Int)) rfl; clear hSw; go_simp; try with_reducible rfl)
  try simp only [yy]
  refine tkQ 2 hHeld ?_
  try simp only [yy]
  refine tkQ 3 hHeld ?_
  try simp only [yy]
  refine tkH 4 (v := ?v63) rfl (by kernel_rfl) (fun _ _ _ h => h) (Or.inl ⟨by rfl, ?hy63⟩) hHeld ?_
  case hy63 => (intro w hSw; have hc := hSw.2.2.cell d _ (mbc_get m d hd); clear hSw; go_simp; try with_reducible rfl)
  try simp only [yy]
  refine tkQ 5 hHeld ?_
  try simp only [yy]
  refine tkQ 6 hHeld ?_
  try simp only [yy]
  refine tkQ 7 hHeld ?_
  try simp only [yy]
  refine' tkH 8 (v := _) rfl (by kernel_rfl) (fun _ _ _ h => h) (yieldsIf_load_mid (by rfl) _ _ rfl w.heap.size 4 rfl (c.peers d).pr.vals _ ?hS67 Tryz.underlying51 rfl sizeIdn) hHeld ?_
  case hS67 => exact fun w h => h.1.range 4 _ (c.peers d).p_pr
  try simp only [yy]
  refine tkQ 9 hHeld ?_
  try simp only [yy]
  refine' tkH 10 (v := _) rfl (by kernel_rfl) (fun _ _ _ h => h) (yieldsIf_load_mid (by rfl) _ _ rfl C 40 rfl c.pr.vals _ ?hS69 Tryz.underlying51 rfl sizeIdn) hHeld ?_
  case hS69 => exact fun w h => h.2.1.range 40 _ c.p_pr
  try simp only [yy]
  refine rd1 11 (fun K hK => ?_)
  go_simp
  go_wp2_with (refine (pc _).mono ?_; rintro r u1 ⟨rfl, hb⟩)
  have hB1 := hB0.trans (hb.mono hB0.size)
  refine hK.out _ _ ⟨hHeld.1.below hb, hHeld.2.1.below hb, hHeld.2.2.below hb⟩ (fun hHeld => ?_)
  clear hK K hb hB0
  refine tkQ 12 hHeld ?_
  try simp only [yy]
  refine tkQ 13 hHeld ?_
  try simp only [yy]
  refine tkQ 14 hHeld ?_
  try simp only [yy]
  refine wpAnyH_done (by kernel_rfl) ?_ _
  go_wp2_with fail
  go_ret
  exact ⟨rfl, hB1⟩
 | false =>
  refine wp_region_held_drew (S := fun w' => Blk w.heap.size (c.peers d).arr 75 w' ∧ Blk C (coc c) 78 w' ∧ Blk G (mbc m) 55 w') (by kernel_rfl) ⟨a0.drew, hC.drew, hG.drew⟩ (fun hHeld => ?_)
  refine tkQ 0 hHeld ?_
  try simp only [yy]
  refine tkH 1 (v := ?v74) rfl (by kernel_rfl) (fun _ _ _ h => h) (Or.inl ⟨by rfl, ?hy74⟩) hHeld ?_
  case hy74 => (intro w hSw; have hc := hSw.1.cell 0 (.int .u32 ((c.peers d).inc : Int)) rfl; clear hSw; go_simp; try with_reducible rfl)
  try simp only [yy]
  refine tkQ 2 hHeld ?_
  try simp only [yy]
  refine tkQ 3 hHeld ?_
  try simp only [yy]
  refine tkH 4 (v := ?v77) rfl (by kernel_rfl) (fun _ _ _ h => h) (Or.inl ⟨by rfl, ?hy77⟩) hHeld ?_
  case hy77 => (intro w hSw; have hc := hSw.2.2.cell d _ (mbc_get m d hd); clear hSw; go_simp; try with_reducible rfl)
  try simp only [yy]
  refine tkQ 5 hHeld ?_
  try simp only [yy]
  refine tkQ 6 hHeld ?_
  try simp only [yy]
  refine tkU 7 hHeld ?_
  try simp only [yy]
  refine tkU 8 hHeld ?_
  try simp only [yy]
  refine tkU 9 hHeld ?_
  try simp only [yy]
  refine tkU 10 hHeld ?_
  try simp only [yy]
  refine tkU 11 hHeld ?_
  try simp only [yy]
  refine tkU 12 hHeld ?_
  try simp only [yy]
  refine tkQ 13 hHeld ?_
  try simp only [yy]
  refine tkQ 14 hHeld ?_
  try simp only [yy]
  refine wpAnyH_done (by kernel_rfl) ?_ _
  go_wp2_with fail
  go_ret
  exact ⟨rfl, hB0⟩
theorem ent_stands1 : Enters 202 := fun args w => by kernel_rfl
set_option maxHeartbeats 2000000 in
theorem stands_ok (c : Co) (s : Nat) (hs : s < 8) (hc : c.self = (s : Int)) (m : Nat → Nat) (w : World) : Calls Tryz.prog 162 #[.agg (coc c), .agg (mbc m)] w fun e w' => e = .returned (.bool (standB c m)) ∧ Below w.heap.size w w' := by
 obtain ⟨a0, a1, hB⟩ := two_blk (T0 := 78) (T1 := 55) (C0 := coc c) (C1 := mbc m) (w := w) rfl
 have hmf : ∀ (fn : Fn) (first cap : Array Value) (w : World), (Instr.makeFunc fn first cap).run Tryz.prog w = .ok (.func fn first cap) w := fun _ _ _ _ => rfl
 obtain ⟨R, HR⟩ : ∃ R, Hid (standB c m = R) := ⟨_, rfl⟩
 rw [HR.out]
 obtain ⟨t1, ht1⟩ : ∃ t, decide ((c.pr.c : Int) = c.self) = t := ⟨_, rfl⟩
 obtain ⟨t2, ht2⟩ : ∃ t, decide (c.pr.i = c.own) = t := ⟨_, rfl⟩
 obtain ⟨t3, ht3⟩ : ∃ t, mbSame c.want m = t := ⟨_, rfl⟩
 obtain ⟨A, hA⟩ : ∃ A, (oth m c.self).any (aboveB c m) = A := ⟨_, rfl⟩
 have e : R = (((t1 && t2) && t3) && !A) := by rw [← HR.out, standB, mineB, ht1, ht2, ht3, hA]
 have k1 : ((c.pr.c : Int) == (s : Int)) = t1 := by rw [← ht1, hc, Bool.eq_iff_iff, beq_iff_eq, decide_eq_true_iff]
 have k2 : ((c.pr.i : Int) == (c.own : Int)) = t2 := by rw [← ht2, Bool.eq_iff_iff, beq_iff_eq, decide_eq_true_iff]; omega
 have k3 : ∀ w, (binOp .neq 55 (.agg (row8 c.want).toArray) (.agg (mbc m))).run Tryz.prog w = .ok (.bool (!t3)) w := neqMb c.want m t3 ht3
 have hwr : IntKind.u32.wrap (s : Int) = (s : Int) := by rw [IntKind.wrap_u32]; omega
 clear HR ht1 ht2 ht3
 go_enter Tryz.func162, Tryz.ntmps162
 go_upto_region 1 with fail
 generalize (w.alloc (Obj.cells (coc c) 78)).alloc (Obj.cells (mbc m) 55) = W at a0 a1 hB ⊢
 have c0 := a0.cell 0 (.int .i64 c.self) rfl
 rw [hc] at c0
 have c1 := a0.cell 41 (.int .u32 (c.pr.c : Int)) rfl
 have c2 := a0.cell 42 (.int .u32 (c.pr.i : Int)) rfl
 have c3 := a0.cell 2 (.int .u32 (c.own : Int)) rfl
 cases t1 with
 | false =>
  obtain rfl : R = false := by rw [e]; rfl
  have n1 : ¬ (c.pr.c : Int) = (s : Int) := by simpa using k1
  clear e k1 k2 k3 a0 a1 hA
  go_wp2_with fail
  go_ret
  exact ⟨rfl, hB⟩
 | true =>
  cases t2 with
  | false =>
   obtain rfl : R = false := by rw [e]; rfl
   have n1 : (c.pr.c : Int) = (s : Int) := by simpa using k1
   have n2 : ¬ (c.pr.i : Int) = (c.own : Int) := by simpa using k2
   clear e k1 k2 k3 a0 a1 hA
   go_wp2_with fail
   go_ret
   exact ⟨rfl, hB⟩
  | true =>
   cases t3 with
   | false =>
    obtain rfl : R = false := by rw [e]; rfl
    have n1 : (c.pr.c : Int) = (s : Int) := by simpa using k1
    have n2 : (c.pr.i : Int) = (c.own : Int) := by simpa using k2
    have n3 : ∀ w, (binOp .neq 55 (.agg (row8 c.want).toArray) (.agg (mbc m))).run Tryz.prog w = .ok (.bool true) w := k3
    clear e hA k1 k2 k3
    go_wp2_with (first | refine load_wpart rfl 55 _ rfl (o := 43) a0 rfl (row8 c.want) c.p_want Tryz.underlying55 rfl sizeMb ?_ | refine load_want rfl 55 _ rfl a1 rfl Tryz.underlying55 rfl sizeMb ?_)
    go_ret
    exact ⟨rfl, hB⟩
   | true =>
    obtain rfl : R = !A := by rw [e]; rfl
    have n1 : (c.pr.c : Int) = (s : Int) := by simpa using k1
    have n2 : (c.pr.i : Int) = (c.own : Int) := by simpa using k2
    have n3 : ∀ w, (binOp .neq 55 (.agg (row8 c.want).toArray) (.agg (mbc m))).run Tryz.prog w = .ok (.bool false) w := k3
    clear e k1 k2 k3
    go_upto_region 3 with (first | refine load_wpart rfl 55 _ rfl (o := 43) a0 rfl (row8 c.want) c.p_want Tryz.underlying55 rfl sizeMb ?_ | refine load_want rfl 55 _ rfl a1 rfl Tryz.underlying55 rfl sizeMb ?_)
    clear n1 n2 n3 c1 c2 c3
    go_wp2_with (refine load_blk rfl 55 _ rfl a1 rfl Tryz.underlying55 rfl sizeMb ?_)
    have po := others_ok m c.self
    rw [hc] at po
    refine (po _).mono ?_
    rintro r w1 ⟨⟨la, lc, rfl, hL⟩, hb⟩
    replace a0 := a0.below hb
    replace a1 := a1.below hb
    replace hB := hB.trans (hb.mono hB.size)
    clear hb c0 po
    rw [hc] at hA
    have pc := con2_ok 202 (.pointer (some ⟨w.heap.size, 0, none⟩)) (.pointer (some ⟨w.heap.size + 1, 0, none⟩)) (aboveB c m) ent_stands1
     (fun u => Blk w.heap.size (coc c) 78 u ∧ Blk (w.heap.size + 1) (mbc m) 55 u) (fun _ _ h hb => ⟨h.1.below hb, h.2.below hb⟩) (oth m (s : Int))
     (fun d hd u h => stands1_ok c m d ((mem_oth _ _ _).1 hd).1 _ _ u h.1 h.2) la lc (by have := oth_len m (s : Int); omega) w1 (hL.mono (Nat.zero_le _)) ⟨a0, a1⟩
    rw [hA] at pc
    generalize (oth m (s : Int)).length = n at *
    clear hL a0 a1 hA
    go_wp2_with fail
    refine pc.mono ?_
    rintro r w2 ⟨rfl, hb⟩
    replace hB := hB.trans (hb.mono hB.size)
    clear hb pc
    go_wp2_with fail
    go_ret
    exact ⟨rfl, hB⟩
end Go.Proofs.YthgfpdidilolgaaGreat
namespace Go.Proofs.YthgfpdidilolgaaGreat
set_option maxRecDepth 10000
open Go.RowKit Go.Sort
set_option linter.unusedVariables false
set_option maxHeartbeats 4000000 in
theorem propose_ok (c : Co) (s : Nat) (hs : s < 8) (hc : c.self = (s : Int)) (he : c.epoch < 4294967296) (m : Nat → Nat) (w : World) : Calls Tryz.prog 128 #[.agg (coc c), .agg (mbc m)] w fun e w' => e = .returned (.tuple #[.agg (propI c m).arr, .bool (proB c m)]) ∧ Below w.heap.size w w' := by
 obtain ⟨a0, a1, a2, hB⟩ := three_blk (T0 := 78) (T1 := 55) (T2 := 51) (C0 := coc c) (C1 := mbc m) (C2 := Idn.zero.arr) (w := w) rfl
 obtain ⟨P, HP⟩ : ∃ P, Hid (propI c m = P) := ⟨_, rfl⟩
 obtain ⟨B, HQ⟩ : ∃ P, Hid (proB c m = P) := ⟨_, rfl⟩
 rw [HP.out, HQ.out]
 have pl := least_ok m
 have ps := stands_ok c s hs hc m
 obtain ⟨t1, ht1⟩ : ∃ t, (!(lst m).isEmpty) = t := ⟨_, rfl⟩
 obtain ⟨l, hl⟩ : ∃ l, (lst m).headD 0 = l := ⟨_, rfl⟩
 obtain ⟨t2, ht2⟩ : ∃ t, decide ((l : Int) = c.self) = t := ⟨_, rfl⟩
 obtain ⟨t3, ht3⟩ : ∃ t, standB c m = t := ⟨_, rfl⟩
 obtain ⟨t4, ht4⟩ : ∃ t, decide (c.epoch = 4294967295) = t := ⟨_, rfl⟩
 have HE : Hid (proB c m = (((t1 && t2) && !t3) && !t4)) := by
  show proB c m = _
  rw [proB, ht1, hl, ht2, ht3, ht4]
 rw [hl, ht1] at pl
 rw [ht3] at ps
 rw [hc] at ht2
 clear ht1 ht3 hl
 go_enter Tryz.func128, Tryz.ntmps128
 go_upto_region 1 with (refine alloc_zero zeroIdn rfl rfl ?_)
 try simp only [Act.put, List.setIfInBounds_toArray, List.set_cons_zero, List.set_cons_succ]
 try simp only [alloc_size]
 generalize ((w.alloc (Obj.cells (coc c) 78)).alloc (Obj.cells (mbc m) 55)).alloc (Obj.cells Idn.zero.arr 51) = W at a0 a1 a2 hB ⊢
 go_wp2_with (refine load_blk rfl 55 _ rfl a1 rfl Tryz.underlying55 rfl sizeMb ?_)
 refine (pl _).mono ?_
 rintro r w1 ⟨rfl, hb⟩
 replace a0 := a0.below hb
 replace a1 := a1.below hb
 replace a2 := a2.below hb
 replace hB := hB.trans (hb.mono hB.size)
 clear hb pl
 have c0 := a0.cell 0 (.int .i64 c.self) rfl
 rw [hc] at c0
 cases t1 with
 | false =>
  clear ps ht2 ht4 c0
  obtain ⟨rfl, rfl⟩ : P = Idn.zero ∧ B = false := by
   have e : proB c m = false := by rw [HE.out]; rfl
   rw [← HP.out, ← HQ.out, propI, e]
   exact ⟨rfl, rfl⟩
  clear HP HQ HE
  go_wp2_with (first | (refine build_as rfl 51 #[] rfl (C := Idn.zero.arr) ?_ ?_; kernel_rfl) | (refine store_part rfl 51 _ _ rfl (off := 0) (cells := Idn.zero.arr) a2 rfl rfl sizeIdn (Nat.le_refl _) Idn.zero.arr_one ?_; intro w9 b9 k9; rw [Idn.all] at b9; have hB9 : Below w.heap.size w w9 := hB.trans (k9.below1 (by omega) hB.size)))
  exact bodyPost_ret (w := w9) (v := .tuple #[.agg Idn.zero.arr, .bool false]) (ret_two rfl rfl b9 Tryz.underlying51 rfl sizeIdn rfl) rfl ⟨rfl, hB9⟩
 | true =>
  cases t2 with
  | false =>
   have n2 : ¬ (l : Int) = (s : Int) := of_decide_eq_false ht2
   clear ps ht2 ht4
   obtain ⟨rfl, rfl⟩ : P = Idn.zero ∧ B = false := by
    have e : proB c m = false := by rw [HE.out]; rfl
    rw [← HP.out, ← HQ.out, propI, e]
    exact ⟨rfl, rfl⟩
   clear HP HQ HE
   go_wp2_with (first | (refine build_as rfl 51 #[] rfl (C := Idn.zero.arr) ?_ ?_; kernel_rfl) | (refine store_part rfl 51 _ _ rfl (off := 0) (cells := Idn.zero.arr) a2 rfl rfl sizeIdn (Nat.le_refl _) Idn.zero.arr_one ?_; intro w9 b9 k9; rw [Idn.all] at b9; have hB9 : Below w.heap.size w w9 := hB.trans (k9.below1 (by omega) hB.size)))
   exact bodyPost_ret (w := w9) (v := .tuple #[.agg Idn.zero.arr, .bool false]) (ret_two rfl rfl b9 Tryz.underlying51 rfl sizeIdn rfl) rfl ⟨rfl, hB9⟩
  | true =>
   have n2 : (l : Int) = (s : Int) := of_decide_eq_true ht2
   clear ht2
   go_wp2_with (first | refine load_want rfl 78 _ rfl a0 rfl Tryz.underlying78 rfl sizeCo ?_ | refine load_want rfl 55 _ rfl a1 rfl Tryz.underlying55 rfl sizeMb ?_)
   refine (ps _).mono ?_
   rintro r w2 ⟨rfl, hb⟩
   clear c0
   replace a0 := a0.below hb
   replace a2 := a2.below hb
   replace hB := hB.trans (hb.mono hB.size)
   clear hb ps a1
   have c0 := a0.cell 0 (.int .i64 c.self) rfl
   rw [hc] at c0
   have c1 := a0.cell 188 (.int .u32 (c.epoch : Int)) rfl
   have c2 := a0.cell 2 (.int .u32 (c.own : Int)) rfl
   cases t3 with
   | true =>
    clear ht4
    obtain ⟨rfl, rfl⟩ : P = Idn.zero ∧ B = false := by
     have e : proB c m = false := by rw [HE.out]; rfl
     rw [← HP.out, ← HQ.out, propI, e]
     exact ⟨rfl, rfl⟩
    clear HP HQ HE
    go_wp2_with (first | (refine build_as rfl 51 #[] rfl (C := Idn.zero.arr) ?_ ?_; kernel_rfl) | (refine store_part rfl 51 _ _ rfl (off := 0) (cells := Idn.zero.arr) a2 rfl rfl sizeIdn (Nat.le_refl _) Idn.zero.arr_one ?_; intro w9 b9 k9; rw [Idn.all] at b9; have hB9 : Below w.heap.size w w9 := hB.trans (k9.below1 (by omega) hB.size)))
    exact bodyPost_ret (w := w9) (v := .tuple #[.agg Idn.zero.arr, .bool false]) (ret_two rfl rfl b9 Tryz.underlying51 rfl sizeIdn rfl) rfl ⟨rfl, hB9⟩
   | false =>
    cases t4 with
    | true =>
     have n4 : (c.epoch : Int) = 4294967295 := by have := of_decide_eq_true ht4; omega
     rw [n4] at c1
     clear ht4
     obtain ⟨rfl, rfl⟩ : P = Idn.zero ∧ B = false := by
      have e : proB c m = false := by rw [HE.out]; rfl
      rw [← HP.out, ← HQ.out, propI, e]
      exact ⟨rfl, rfl⟩
     clear HP HQ HE
     go_wp2_with (first | (refine build_as rfl 51 #[] rfl (C := Idn.zero.arr) ?_ ?_; kernel_rfl) | (refine store_part rfl 51 _ _ rfl (off := 0) (cells := Idn.zero.arr) a2 rfl rfl sizeIdn (Nat.le_refl _) Idn.zero.arr_one ?_; intro w9 b9 k9; rw [Idn.all] at b9; have hB9 : Below w.heap.size w w9 := hB.trans (k9.below1 (by omega) hB.size)))
     exact bodyPost_ret (w := w9) (v := .tuple #[.agg Idn.zero.arr, .bool false]) (ret_two rfl rfl b9 Tryz.underlying51 rfl sizeIdn rfl) rfl ⟨rfl, hB9⟩
    | false =>
     have n4 : ((c.epoch : Int) == 4294967295) = false := by rw [beq_eq_false_iff_ne]; have := of_decide_eq_false ht4; omega
     have n5 : c.epoch < 4294967295 := by have := of_decide_eq_false ht4; omega
     obtain ⟨v, hv⟩ : ∃ v, c.epoch + 1 = v := ⟨_, rfl⟩
     have hw1 : IntKind.u32.wrap ((c.epoch : Int) + 1) = (v : Int) := by rw [IntKind.wrap_u32]; omega
     have hw2 : IntKind.u32.wrap (s : Int) = (s : Int) := by rw [IntKind.wrap_u32]; omega
     obtain ⟨rfl, rfl⟩ : P = ⟨v, s, c.own⟩ ∧ B = true := by
      have e : proB c m = true := by rw [HE.out]; rfl
      rw [← HP.out, ← HQ.out, propI, e, hc, ← hv]
      exact ⟨rfl, rfl⟩
     clear ht4 HP HQ HE n5 hv he
     go_wp2_with (first | (refine build_as rfl 51 #[(0, .tmp 34), (1, .tmp 37), (2, .tmp 39)] rfl (C := (Idn.mk v s c.own).arr) ?_ ?_; kernel_rfl) | (refine store_part rfl 51 _ _ rfl (off := 0) (cells := (Idn.mk v s c.own).arr) a2 rfl rfl sizeIdn (Nat.le_refl _) (Idn.mk v s c.own).arr_one ?_; intro w9 b9 k9; rw [Idn.all] at b9; have hB9 : Below w.heap.size w w9 := hB.trans (k9.below1 (by omega) hB.size)))
     exact bodyPost_ret (w := w9) (v := .tuple #[.agg (Idn.mk v s c.own).arr, .bool true]) (ret_two rfl rfl b9 Tryz.underlying51 rfl sizeIdn rfl) rfl ⟨rfl, hB9⟩
end Go.Proofs.YthgfpdidilolgaaGreat
namespace Go.Proofs.YthgfpdidilolgaaGreat
set_option maxRecDepth 10000
set_option linter.unusedSimpArgs false
open Go.RowKit Go.Sort
set_option linter.unusedVariables false
set_option maxHeartbeats 4000000 in
theorem upropose_ok (P : Nat) (c : Co) (v : Value) (s : Nat) (hs : s < 8) (hcs : c.self = (s : Int)) (hn : c.beat.now < 4294967296) (he : c.epoch < 4294967296) (w : World) (b0 : Blk P (unc c v) 166 w) :
  Calls Tryz.prog 101 #[.pointer (some ⟨P, 0, none⟩)] w fun e w' => e = .returned (.tuple #[]) ∧ Blk P (unc (proposeC c (reachC c)) v) 166 w' ∧ Kp [P] w w' := by
 have hP := b0.lt
 have pr := reach_ok c.beat c.self c.own (waitN c) hn
 obtain ⟨m, Hm⟩ : ∃ m, Hid (reachC c = m) := ⟨_, rfl⟩
 have Hr : Hid (rchB c.beat c.self c.own (waitN c) = m) := Hm
 rw [Hr.out, hcs] at pr
 have hw0 : IntKind.u32.wrap c.wait = ((waitN c : Nat) : Int) := by rw [IntKind.wrap_u32, waitN]; omega
 have pp := propose_ok c s hs hcs he m
 obtain ⟨U1, hU1⟩ : ∃ t, unsB c m = t := ⟨_, rfl⟩
 obtain ⟨U2, hU2⟩ : ∃ t, proB c m = t := ⟨_, rfl⟩
 obtain ⟨X, hX⟩ : ∃ t, propI c m = t := ⟨_, rfl⟩
 have pu := unsettled_ok P c v s hs hcs m
 rw [hU1] at pu
 rw [hU2, hX] at pp
 rw [Hm.out]
 obtain ⟨Z, hZ⟩ : ∃ Z, Hid (proposeC c m = Z) := ⟨_, rfl⟩
 rw [hZ.out]
 have HZ : Hid (Z = if (U1 && U2) = true then promC (c.wEpoch X.e) X m else c) := by show Z = _; rw [← hZ.out, proposeC, hU1, hU2, hX]
 clear hU1 hU2 hX Hr Hm he hn hZ
 go_enter Tryz.func101, Tryz.ntmps101
 go_upto_region 0 with fail
 have hC0 : Below w.heap.size w w.drew := (Below.refl _ _).drew
 go_cut [2] from 5 to 26 (fun pv wx => ∃ p, pv = .pointer (some ⟨p, 0, none⟩) ∧ P < p ∧ Blk p (mbc m) 55 wx ∧ Blk P (unc c v) 166 wx ∧ Below w.heap.size w wx)
 case first =>
  refine wp_region_held_drew (S := fun w' => Blk P (unc c v) 166 w') (by kernel_rfl) b0.drew (fun hHeld => ?_)
  refine tkQ 0 hHeld ?_
  try simp only [yy]
  refine tkQ 1 hHeld ?_
  try simp only [yy]
  refine tkQ 2 hHeld ?_
  try simp only [yy]
  refine tkQ 3 hHeld ?_
  try simp only [yy]
  refine' tkH 4 (v := _) rfl (by kernel_rfl) (fun _ _ _ h => h) (yieldsIf_load_mid (by rfl) _ _ rfl P 3 rfl c.beat.vals _ ?hS138 Tryz.underlying72 rfl sizeBt) hHeld ?_
  case hS138 => exact fun w h => h.range 3 _ (un_beat _ _)
  try simp only [yy]
  refine tkQ 5 hHeld ?_
  try simp only [yy]
  refine tkQ 6 hHeld ?_
  try simp only [yy]
  refine tkQ 7 hHeld ?_
  try simp only [yy]
  refine tkQ 8 hHeld ?_
  try simp only [yy]
  refine tkH 9 (v := ?v143) rfl (by kernel_rfl) (fun _ _ _ h => h) (Or.inl ⟨by rfl, ?hy143⟩) hHeld ?_
  case hy143 => (intro w hSw; have hc : w.cell? ⟨P, 0, none⟩ = some (.int .i64 c.self) := hSw.cell 0 (.int .i64 c.self) rfl; clear hSw; go_simp; try with_reducible rfl)
  try simp only [yy]
  refine tkQ 10 hHeld ?_
  try simp only [yy]
  refine tkQ 11 hHeld ?_
  try simp only [yy]
  refine tkQ 12 hHeld ?_
  try simp only [yy]
  refine tkQ 13 hHeld ?_
  try simp only [yy]
  refine tkH 14 (v := ?v148) rfl (by kernel_rfl) (fun _ _ _ h => h) (Or.inl ⟨by rfl, ?hy148⟩) hHeld ?_
  case hy148 => (intro w hSw; have hc : w.cell? ⟨P, 2, none⟩ = some (.int .u32 (c.own : Int)) := hSw.cell 2 (.int .u32 (c.own : Int)) rfl; clear hSw; go_simp; try with_reducible rfl)
  try simp only [yy]
  refine tkQ 15 hHeld ?_
  try simp only [yy]
  refine tkQ 16 hHeld ?_
  try simp only [yy]
  refine tkQ 17 hHeld ?_
  try simp only [yy]
  refine tkQ 18 hHeld ?_
  try simp only [yy]
  refine tkH 19 (v := ?v153) rfl (by kernel_rfl) (fun _ _ _ h => h) (Or.inl ⟨by rfl, ?hy153⟩) hHeld ?_
  case hy153 => (intro w hSw; have hc : w.cell? ⟨P, 1, none⟩ = some (.int .i64 c.wait) := hSw.cell 1 (.int .i64 c.wait) rfl; clear hSw; go_simp; try with_reducible rfl)
  try simp only [yy]
  refine tkQ 20 hHeld ?_
  try simp only [yy]
  refine wpAnyH_ready (rs := [21, 22]) (by kernel_rfl) (by simp) ?_
  refine AllReadyH.cons rfl (fun K hK => ?_) (AllReadyH.cons rfl (fun K hK => ?_) (AllReadyH.nil))
  ·go_simp
   go_wp2_with (refine (pr _).mono ?_; rintro r u1 ⟨rfl, hb⟩)
   have hC1 := hC0.trans (hb.mono hC0.size)
   refine hK.out _ _ (hHeld.below hb) (fun hHeld => ?_)
   clear hK K hb hC0
   refine rd1 22 (fun K hK => ?_)
   rw [if_pos (by rfl)]
   refine wp_alloc_any zeroMb rfl ?_
   intro xp u2 x2 hb xl xt
   have xg := Nat.le_trans hC1.size xl
   have hC2 := hC1.trans (hb.mono hC1.size)
   refine hK.out _ _ (hHeld.below hb) (fun hHeld => ?_)
   clear hK K hb hC1
   try simp only [yy]
   refine rd1 23 (fun K hK => ?_)
   rw [if_pos (by rfl)]
   refine wp_store_all 55 _ _ rfl (cells := (mbc m)) x2 rfl rfl sizeMb rfl (mbc_one _) ?_
   intro u3 hn hk
   have hC3 := hC2.trans (hk.below (by simp <;> omega) hC2.size)
   have x3 := hn
   refine hK.out _ _ (hHeld.kp hk (by simp <;> omega)) (fun hHeld => ?_)
   clear hK K hk hn hC2 x2
   try simp only [yy]
   refine wpAnyH_done (by kernel_rfl) ?_ _
   go_wp2_with fail
   go_meet
   exact ⟨xp, rfl, by omega, x3, hHeld, hC3⟩
  ·rw [if_pos (by rfl)]
   refine wp_alloc_any zeroMb rfl ?_
   intro xp u4 x1 hb xl xt
   have xg := Nat.le_trans hC0.size xl
   have hC1 := hC0.trans (hb.mono hC0.size)
   refine hK.out _ _ (hHeld.below hb) (fun hHeld => ?_)
   clear hK K hb hC0
   try simp only [yy]
   refine rd1 21 (fun K hK => ?_)
   go_simp
   go_wp2_with (refine (pr _).mono ?_; rintro r u5 ⟨rfl, hb⟩)
   have hC2 := hC1.trans (hb.mono hC1.size)
   have x2 := x1.below hb
   refine hK.out _ _ (hHeld.below hb) (fun hHeld => ?_)
   clear hK K hb hC1 x1
   refine rd1 23 (fun K hK => ?_)
   rw [if_pos (by rfl)]
   refine wp_store_all 55 _ _ rfl (cells := (mbc m)) x2 rfl rfl sizeMb rfl (mbc_one _) ?_
   intro u6 hn hk
   have hC3 := hC2.trans (hk.below (by simp <;> omega) hC2.size)
   have x3 := hn
   refine hK.out _ _ (hHeld.kp hk (by simp <;> omega)) (fun hHeld => ?_)
   clear hK K hk hn hC2 x2
   try simp only [yy]
   refine wpAnyH_done (by kernel_rfl) ?_ _
   go_wp2_with fail
   go_meet
   exact ⟨xp, rfl, by omega, x3, hHeld, hC3⟩
 case rest =>
  obtain ⟨p, rfl, hPp, x0, bP, hB⟩ := hcut
  clear b0 hC0 pr
  rename World => w1
  go_wp2_with (refine load_blk rfl 55 _ rfl x0 rfl Tryz.underlying55 rfl sizeMb ?_)
  refine (pu _ bP).mono ?_
  rintro r w2 ⟨rfl, hb⟩
  replace x0 := x0.below hb
  replace bP := bP.below hb
  replace hB := hB.trans (hb.mono hB.size)
  clear hb pu
  cases U1 with
  | false =>
   obtain rfl : Z = c := by rw [HZ.out]; rfl
   go_wp2_with fail
   (try simp only [Exit.inBlock, Exit.then])
   refine bodyPost_ret (results_none rfl _ _ _) rfl ?_
   exact ⟨rfl, bP, Kp.of_below hB⟩
  | true =>
   go_upto_region 2 with fail
   have hC0 : Below w2.heap.size w2 w2.drew := (Below.refl _ _).drew
   have hxl := x0.lt
   go_cut [3, 4] from 32 to 39 (fun pv ov wx => ∃ q, pv = .pointer (some ⟨q, 0, none⟩) ∧ P < q ∧ ov = .bool U2 ∧ Blk q X.arr 51 wx ∧ Blk P (unc c v) 166 wx ∧ Blk p (mbc m) 55 wx ∧ Below w2.heap.size w2 wx)
   case first =>
    refine wp_region_held_drew (S := fun w' => Blk P (unc c v) 166 w' ∧ Blk p (mbc m) 55 w') (by kernel_rfl) ⟨bP.drew, x0.drew⟩ (fun hHeld => ?_)
    refine tkQ 0 hHeld ?_
    try simp only [yy]
    refine tkQ 1 hHeld ?_
    try simp only [yy]
    refine tkQ 2 hHeld ?_
    try simp only [yy]
    refine' tkH 3 (v := _) rfl (by kernel_rfl) (fun _ _ _ h => h) (yieldsIf_load_mid (by rfl) _ _ rfl P 0 rfl (col c) _ ?hS158 Tryz.underlying78 rfl sizeCo) hHeld ?_
    case hS158 => exact fun w h => h.1.range 0 _ (unc_core _ _)
    try simp only [yy]
    refine' tkH 4 (v := _) rfl (by kernel_rfl) (fun _ _ _ h => h) (yieldsIf_load_mid (by rfl) _ _ rfl p 0 rfl (row8 m) _ ?hS159 Tryz.underlying55 rfl sizeMb) hHeld ?_
    case hS159 => exact fun w h => h.2.whole
    try simp only [yy]
    refine wpAnyH_ready (rs := [5, 9]) (by kernel_rfl) (by simp) ?_
    refine AllReadyH.cons rfl (fun K hK => ?_) (AllReadyH.cons rfl (fun K hK => ?_) (AllReadyH.nil))
    ·go_simp
     go_wp2_with (refine (pp _).mono ?_; rintro r u1 ⟨rfl, hb⟩)
     have hC1 := hC0.trans (hb.mono hC0.size)
     refine hK.out _ _ ⟨hHeld.1.below hb, hHeld.2.below hb⟩ (fun hHeld => ?_)
     clear hK K hb hC0
     refine tkQ 6 hHeld ?_
     try simp only [yy]
     refine tkQ 7 hHeld ?_
     try simp only [yy]
     refine tkQ 8 hHeld ?_
     try simp only [yy]
     refine rd1 9 (fun K hK => ?_)
     rw [if_pos (by rfl)]
     refine wp_alloc_any zeroIdn rfl ?_
     intro xp u2 x2 hb xl xt
     have xg := Nat.le_trans hC1.size xl
     have hC2 := hC1.trans (hb.mono hC1.size)
     refine hK.out _ _ ⟨hHeld.1.below hb, hHeld.2.below hb⟩ (fun hHeld => ?_)
     clear hK K hb hC1
     try simp only [yy]
     refine rd1 10 (fun K hK => ?_)
     rw [if_pos (by rfl)]
     refine wp_store_all 51 _ _ rfl (cells := X.arr) x2 rfl rfl sizeIdn rfl X.arr_one ?_
     intro u3 hn hk
     have hC3 := hC2.trans (hk.below (by simp <;> omega) hC2.size)
     have x3 := hn
     refine hK.out _ _ ⟨hHeld.1.kp hk (by simp <;> omega), hHeld.2.kp hk (by simp <;> omega)⟩ (fun hHeld => ?_)
     clear hK K hk hn hC2 x2
     try simp only [yy]
     refine tkQ 11 hHeld ?_
     try simp only [yy]
     refine wpAnyH_done (by kernel_rfl) ?_ _
     go_wp2_with fail
     go_meet
     exact ⟨xp, rfl, by omega, rfl, x3, hHeld.1, hHeld.2, hC3⟩
    ·rw [if_pos (by rfl)]
     refine wp_alloc_any zeroIdn rfl ?_
     intro xp u4 x1 hb xl xt
     have xg := Nat.le_trans hC0.size xl
     have hC1 := hC0.trans (hb.mono hC0.size)
     refine hK.out _ _ ⟨hHeld.1.below hb, hHeld.2.below hb⟩ (fun hHeld => ?_)
     clear hK K hb hC0
     try simp only [yy]
     refine rd1 5 (fun K hK => ?_)
     go_simp
     go_wp2_with (refine (pp _).mono ?_; rintro r u5 ⟨rfl, hb⟩)
     have hC2 := hC1.trans (hb.mono hC1.size)
     have x2 := x1.below hb
     refine hK.out _ _ ⟨hHeld.1.below hb, hHeld.2.below hb⟩ (fun hHeld => ?_)
     clear hK K hb hC1 x1
     refine tkQ 6 hHeld ?_
     try simp only [yy]
     refine tkQ 7 hHeld ?_
     try simp only [yy]
     refine tkQ 8 hHeld ?_
     try simp only [yy]
     refine rd1 10 (fun K hK => ?_)
     rw [if_pos (by rfl)]
     refine wp_store_all 51 _ _ rfl (cells := X.arr) x2 rfl rfl sizeIdn rfl X.arr_one ?_
     intro u6 hn hk
     have hC3 := hC2.trans (hk.below (by simp <;> omega) hC2.size)
     have x3 := hn
     refine hK.out _ _ ⟨hHeld.1.kp hk (by simp <;> omega), hHeld.2.kp hk (by simp <;> omega)⟩ (fun hHeld => ?_)
     clear hK K hk hn hC2 x2
     try simp only [yy]
     refine tkQ 11 hHeld ?_
     try simp only [yy]
     refine wpAnyH_done (by kernel_rfl) ?_ _
     go_wp2_with fail
     go_meet
     exact ⟨xp, rfl, by omega, rfl, x3, hHeld.1, hHeld.2, hC3⟩
   case rest =>
    obtain ⟨q, rfl, hPq, rfl, y0, bP', x0', hb⟩ := hcut
    clear bP x0 hC0 pp
    rename World => w3
    replace hB := hB.trans (hb.mono hB.size)
    clear hb
    cases U2 with
    | false =>
     obtain rfl : Z = c := by rw [HZ.out]; rfl
     go_wp2_with fail
     go_end0
     exact ⟨rfl, bP', Kp.of_below hB⟩
    | true =>
     have hq := y0.lt
     have c0 := y0.cell 0 (.int .u32 (X.e : Int)) rfl
     have kB : Kp [P] w w3 := Kp.of_below hB
     obtain rfl : Z = promC (c.wEpoch X.e) X m := by rw [HZ.out]; rfl
     have hne1 : q ≠ P := by omega
     have hne2 : p ≠ P := by omega
     go_upto_region 5 with ((refine store_one rfl 37 _ _ rfl (off := 188) (.int .u32 (X.e : Int)) bP' rfl rfl rfl rfl sizeU32 (by rw [unc_size]; decide) ?_; intro w4 b4 k4; rw [unc_set _ _ _ 188 _ (Co.s_epoch c X.e) (by decide)] at b4; have kp4 := kB.trans (k4.mono (fun i hi => by simp at hi; simp [hi]))))
     try simp only [Act.put]
     replace y0 := y0.kp1 k4 hne1
     replace x0' := x0'.kp1 k4 hne2
     clear c0
     go_wp2_with (first | refine load_blk rfl 51 _ rfl y0 rfl Tryz.underlying51 rfl sizeIdn ?_ | refine load_blk rfl 55 _ rfl x0' rfl Tryz.underlying55 rfl sizeMb ?_)
     refine (promise_ok P (c.wEpoch X.e) v X m _ b4).mono ?_
     rintro r w5 ⟨rfl, b5, k5⟩
     go_wp2_with fail
     go_end0
     exact ⟨rfl, b5, kp4.trans k5⟩
end Go.Proofs.YthgfpdidilolgaaGreat
