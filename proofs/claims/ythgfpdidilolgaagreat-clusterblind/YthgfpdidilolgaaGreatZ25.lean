/-
  Of the texts beneath these laws, in their order: CeP, CeS, CeX, CbA.
  Each theorem says its own conditions.
-/
import Derived.Test.YthgfpdidilolgaaGreatZ16
import Derived.Test.YthgfpdidilolgaaGreatZ05
import Derived.Test.YthgfpdidilolgaaGreatZ00
import Derived.Test.YthgfpdidilolgaaGreatZ04
import Derived.Test.YthgfpdidilolgaaGreatZ22
import Derived.Test.YthgfpdidilolgaaGreatZ24
import Derived.Test.YthgfpdidilolgaaGreatZ07
import Derived.Test.YthgfpdidilolgaaGreatZ03
namespace Go.Proofs.YthgfpdidilolgaaGreat
set_option maxRecDepth 10000
set_option linter.unusedSimpArgs false
open Go.RowKit Go.Sort
set_option linter.unusedVariables false
set_option maxHeartbeats 8000000 in
theorem packet_ok (c : Co) (L : List Kt) (s : Nat) (hs : s < 8) (hcs : c.self = (s : Int)) (kb : c.beat.now < 4294967296) (kc : ∀ i, c.count i < 4294967296) (hn : c.kn = L.length) (hl : L.length * 352 ≤ 140737488355328) (w : World) (lS : Li Kt.vals 0 c.ka L w) :
  Calls Tryz.prog 105 #[.agg (coc c)] w fun e w' => e = .returned (.agg (pwc (packW c L))) ∧ Below w.heap.size w w' := by
 obtain ⟨a0, a1, hB⟩ := two_blk (T0 := 78) (T1 := 116) (C0 := coc c) (C1 := pwc Pw.zero) (w := w) rfl
 have po := own_ok c s hs hcs
 have pg := gathers_ok c
 have lm : L.length ≤ 9223372036854775807 := by omega
 have eo : ownN c = c.count s := by rw [ownN, hcs, Int.toNat_natCast]
 obtain ⟨o, ho⟩ : ∃ o, ownN c = o := ⟨_, rfl⟩
 have holt : o < 4294967296 := by rw [← ho, eo]; exact kc s
 obtain ⟨g, hg⟩ : ∃ t, gathB c = t := ⟨_, rfl⟩
 obtain ⟨C1, hC1⟩ : ∃ C, Hid ((if g = true then c.cut else c.count) = C) := ⟨_, rfl⟩
 obtain ⟨G0, hG0⟩ : ∃ G, Hid (gotF (getK (s : Int) o L) = G) := ⟨_, rfl⟩
 obtain ⟨G1, hG1⟩ : ∃ G, Hid ((if 0 < o then gotF (getK (s : Int) (o - 1) L) else noFr) = G) := ⟨_, rfl⟩
 obtain ⟨Kx, hK⟩ : ∃ Kx, Hid (pickK L c.beat.now = Kx) := ⟨_, rfl⟩
 obtain ⟨E, hE⟩ : ∃ E, L.isEmpty = E := ⟨_, rfl⟩
 obtain ⟨ko, hko⟩ : ∃ k, Hid ((Kx.fr % 4294967296).toNat = k) := ⟨_, rfl⟩
 have hw9 : IntKind.u32.wrap Kx.fr = (ko : Int) := by rw [IntKind.wrap_u32, ← hko.out]; omega
 obtain ⟨R0, hR0⟩ : ∃ k, Hid ((if E = true then 0 else ko) = k) := ⟨_, rfl⟩
 obtain ⟨R1, hR1⟩ : ∃ k, Hid ((if E = true then 0 else Kx.rd) = k) := ⟨_, rfl⟩
 obtain ⟨R2, hR2⟩ : ∃ k, Hid ((if E = true then noFr else Kx.f) = k) := ⟨_, rfl⟩
 have ef : packW c L = (Pw.mk s c.own c.conf c.mem C1 c.pr c.want c.rdy c.epoch o G0 G1 R0 R1 R2) := by
  unfold packW relO relR relF
  rw [hE, ho, hcs, hK.out, hg, hC1.out, hG0.out, hG1.out, hko.out, hR0.out, hR1.out, hR2.out]
  rfl
 rw [ef]
 have pA := fun (u : World) (h : Li Kt.vals 0 c.ka L u) => get_ok L c.ka c.kc (s : Int) o lm u h
 have pB := fun (u : World) (h : Li Kt.vals 0 c.ka L u) => get_ok L c.ka c.kc (s : Int) (o - 1) lm u h
 have pC := fun (u : World) (h : Li Kt.vals 0 c.ka L u) => pick_ok L c.ka c.kc c.beat.now kb lm u h
 rw [hG0.out] at pA
 rw [hK.out, hE] at pC
 rw [ho] at po
 rw [hg] at pg
 have hws : IntKind.u32.wrap (s : Int) = (s : Int) := by rw [IntKind.wrap_u32]; omega
 clear ef eo ho hg hE hK hko
 go_enter Tryz.func105, Tryz.ntmps105
 go_upto_region 1 with (refine alloc_zero zeroPw rfl rfl ?_)
 try simp only [Act.put, List.setIfInBounds_toArray, List.set_cons_zero, List.set_cons_succ]
 try simp only [alloc_size]
 generalize (w.alloc (Obj.cells (coc c) 78)).alloc (Obj.cells (pwc Pw.zero) 116) = W at a0 a1 hB ⊢
 have hW := a1.lt
 have hC0 : Below W.heap.size W W.drew := (Below.refl _ _).drew
 have hdr : W.drew.heap.size = W.heap.size := rfl
 go_cut [3] from 6 to 27 (fun pv wx => ∃ p, pv = .pointer (some ⟨p, 0, none⟩) ∧ w.heap.size + 1 < p ∧ Blk p (pwc (Pw.mk s c.own c.conf c.mem c.count c.pr c.want c.rdy c.epoch o noFr noFr 0 0 noFr)) 116 wx ∧ Blk w.heap.size (coc c) 78 wx ∧ Blk (w.heap.size + 1) (pwc Pw.zero) 116 wx ∧ Below W.heap.size W wx)
 case first =>
  refine wp_region_held_drew (S := fun w' => Blk w.heap.size (coc c) 78 w' ∧ Blk (w.heap.size + 1) (pwc Pw.zero) 116 w') (by kernel_rfl) ⟨a0.drew, a1.drew⟩ (fun hHeld => ?_)
  refine tkQ 0 hHeld ?_
  try simp only [yy]
  refine tkH 1 (v := ?v2) rfl (by kernel_rfl) (fun _ _ _ h => h) (Or.inl ⟨by rfl, ?hy2⟩) hHeld ?_
  case hy2 => (intro w hSw; have hc := hSw.1.cell 0 (.int .i64 c.self) rfl; rw [hcs] at hc; clear hSw; go_simp; try with_reducible rfl)
  try simp only [yy]
  refine tkQ 2 hHeld ?_
  try simp only [yy]
  refine tkQ 3 hHeld ?_
  try simp only [yy]
  refine tkH 4 (v := ?v5) rfl (by kernel_rfl) (fun _ _ _ h => h) (Or.inl ⟨by rfl, ?hy5⟩) hHeld ?_
  case hy5 => (intro w hSw; have hc := hSw.1.cell 2 (.int .u32 (c.own : Int)) rfl; clear hSw; go_simp; try with_reducible rfl)
  try simp only [yy]
  refine tkQ 5 hHeld ?_
  try simp only [yy]
  refine' tkH 6 (v := _) rfl (by kernel_rfl) (fun _ _ _ h => h) (yieldsIf_load_mid (by rfl) _ _ rfl w.heap.size 20 rfl c.conf.vals _ ?hS7 Tryz.underlying51 rfl sizeIdn) hHeld ?_
  case hS7 => exact fun w h => h.1.range 20 _ c.p_conf
  try simp only [yy]
  refine tkQ 7 hHeld ?_
  try simp only [yy]
  refine' tkH 8 (v := _) rfl (by kernel_rfl) (fun _ _ _ h => h) (yieldsIf_load_mid (by rfl) _ _ rfl w.heap.size 23 rfl (row8 c.mem) _ ?hS9 Tryz.underlying55 rfl sizeMb) hHeld ?_
  case hS9 => exact fun w h => h.1.range 23 _ c.p_mem
  try simp only [yy]
  refine tkQ 9 hHeld ?_
  try simp only [yy]
  refine' tkH 10 (v := _) rfl (by kernel_rfl) (fun _ _ _ h => h) (yieldsIf_load_mid (by rfl) _ _ rfl w.heap.size 31 rfl (row8 c.count) _ ?hS11 Tryz.underlying60 rfl sizeCt) hHeld ?_
  case hS11 => exact fun w h => h.1.range 31 _ c.p_count
  try simp only [yy]
  refine tkQ 11 hHeld ?_
  try simp only [yy]
  refine' tkH 12 (v := _) rfl (by kernel_rfl) (fun _ _ _ h => h) (yieldsIf_load_mid (by rfl) _ _ rfl w.heap.size 40 rfl c.pr.vals _ ?hS13 Tryz.underlying51 rfl sizeIdn) hHeld ?_
  case hS13 => exact fun w h => h.1.range 40 _ c.p_pr
  try simp only [yy]
  refine tkQ 13 hHeld ?_
  try simp only [yy]
  refine' tkH 14 (v := _) rfl (by kernel_rfl) (fun _ _ _ h => h) (yieldsIf_load_mid (by rfl) _ _ rfl w.heap.size 43 rfl (row8 c.want) _ ?hS15 Tryz.underlying55 rfl sizeMb) hHeld ?_
  case hS15 => exact fun w h => h.1.range 43 _ c.p_want
  try simp only [yy]
  refine tkQ 15 hHeld ?_
  try simp only [yy]
  refine tkH 16 (v := ?v17) rfl (by kernel_rfl) (fun _ _ _ h => h) (Or.inl ⟨by rfl, ?hy17⟩) hHeld ?_
  case hy17 => (intro w hSw; have hc := hSw.1.cell 59 (.bool c.rdy) rfl; clear hSw; go_simp; try with_reducible rfl)
  try simp only [yy]
  refine tkQ 17 hHeld ?_
  try simp only [yy]
  refine tkH 18 (v := ?v19) rfl (by kernel_rfl) (fun _ _ _ h => h) (Or.inl ⟨by rfl, ?hy19⟩) hHeld ?_
  case hy19 => (intro w hSw; have hc := hSw.1.cell 188 (.int .u32 (c.epoch : Int)) rfl; clear hSw; go_simp; try with_reducible rfl)
  try simp only [yy]
  refine' tkH 19 (v := _) rfl (by kernel_rfl) (fun _ _ _ h => h) (yieldsIf_load_mid (by rfl) _ _ rfl w.heap.size 0 rfl (col c) _ ?hS20 Tryz.underlying78 rfl sizeCo) hHeld ?_
  case hS20 => exact fun w h => h.1.whole
  try simp only [yy]
  refine wpAnyH_ready (rs := [20, 22]) (by kernel_rfl) (by simp) ?_
  refine AllReadyH.cons rfl (fun K hK => ?_) (AllReadyH.cons rfl (fun K hK => ?_) (AllReadyH.nil))
  ·go_simp
   go_wp2_with (refine (po _).mono ?_; rintro r u1 ⟨rfl, hb⟩)
   have hC1 := hC0.trans (hb.mono hC0.size)
   refine hK.out _ _ ⟨hHeld.1.below hb, hHeld.2.below hb⟩ (fun hHeld => ?_)
   clear hK K hb hC0
   refine wpAnyH_take (i := 21) (v := .agg (pwc (Pw.mk s c.own c.conf c.mem c.count c.pr c.want c.rdy c.epoch o noFr noFr 0 0 noFr))) rfl (by kernel_rfl) (by kernel_rfl) (by kernel_rfl) (fun _ _ _ h => h) (yields_build (by rfl) 116 #[(0, .tmp 8), (1, .tmp 10), (2, .tmp 12), (3, .tmp 14), (4, .tmp 16), (5, .tmp 18), (6, .tmp 20), (7, .tmp 22), (8, .tmp 24), (9, .tmp 26)] rfl (by kernel_rfl)) hHeld ?_
   try simp only [yy]
   refine rd1 22 (fun K hK => ?_)
   rw [if_pos (by rfl)]
   refine wp_alloc_any zeroPw rfl ?_
   intro xp u2 x2 hb xl xt
   have xg := Nat.le_trans hC1.size xl
   have hC2 := hC1.trans (hb.mono hC1.size)
   refine hK.out _ _ ⟨hHeld.1.below hb, hHeld.2.below hb⟩ (fun hHeld => ?_)
   clear hK K hb hC1
   try simp only [yy]
   refine rd1 23 (fun K hK => ?_)
   rw [if_pos (by rfl)]
   refine wp_store_all 116 _ _ rfl (cells := (pwc (Pw.mk s c.own c.conf c.mem c.count c.pr c.want c.rdy c.epoch o noFr noFr 0 0 noFr))) x2 rfl rfl sizePk rfl (pwc_one _) ?_
   intro u3 hn hk
   have hC3 := hC2.trans (hk.below (by simp <;> omega) hC2.size)
   have x3 := hn
   refine hK.out _ _ ⟨hHeld.1.kp hk (by simp <;> omega), hHeld.2.kp hk (by simp <;> omega)⟩ (fun hHeld => ?_)
   clear hK K hk hn hC2 x2
   try simp only [yy]
   refine wpAnyH_done (by kernel_rfl) ?_ _
   go_wp2_with fail
   go_meet
   exact ⟨xp, rfl, by omega, x3, hHeld.1, hHeld.2, hC3⟩
  ·rw [if_pos (by rfl)]
   refine wp_alloc_any zeroPw rfl ?_
   intro xp u4 x1 hb xl xt
   have xg := Nat.le_trans hC0.size xl
   have hC1 := hC0.trans (hb.mono hC0.size)
   refine hK.out _ _ ⟨hHeld.1.below hb, hHeld.2.below hb⟩ (fun hHeld => ?_)
   clear hK K hb hC0
   try simp only [yy]
   refine rd1 20 (fun K hK => ?_)
   go_simp
   go_wp2_with (refine (po _).mono ?_; rintro r u5 ⟨rfl, hb⟩)
   have hC2 := hC1.trans (hb.mono hC1.size)
   have x2 := x1.below hb
   refine hK.out _ _ ⟨hHeld.1.below hb, hHeld.2.below hb⟩ (fun hHeld => ?_)
   clear hK K hb hC1 x1
   refine wpAnyH_take (i := 21) (v := .agg (pwc (Pw.mk s c.own c.conf c.mem c.count c.pr c.want c.rdy c.epoch o noFr noFr 0 0 noFr))) rfl (by kernel_rfl) (by kernel_rfl) (by kernel_rfl) (fun _ _ _ h => h) (yields_build (by rfl) 116 #[(0, .tmp 8), (1, .tmp 10), (2, .tmp 12), (3, .tmp 14), (4, .tmp 16), (5, .tmp 18), (6, .tmp 20), (7, .tmp 22), (8, .tmp 24), (9, .tmp 26)] rfl (by kernel_rfl)) hHeld ?_
   try simp only [yy]
   refine rd1 23 (fun K hK => ?_)
   rw [if_pos (by rfl)]
   refine wp_store_all 116 _ _ rfl (cells := (pwc (Pw.mk s c.own c.conf c.mem c.count c.pr c.want c.rdy c.epoch o noFr noFr 0 0 noFr))) x2 rfl rfl sizePk rfl (pwc_one _) ?_
   intro u6 hn hk
   have hC3 := hC2.trans (hk.below (by simp <;> omega) hC2.size)
   have x3 := hn
   refine hK.out _ _ ⟨hHeld.1.kp hk (by simp <;> omega), hHeld.2.kp hk (by simp <;> omega)⟩ (fun hHeld => ?_)
   clear hK K hk hn hC2 x2
   try simp only [yy]
   refine wpAnyH_done (by kernel_rfl) ?_ _
   go_wp2_with fail
   go_meet
   exact ⟨xp, rfl, by omega, x3, hHeld.1, hHeld.2, hC3⟩
 case rest =>
  obtain ⟨p, rfl, hp, x0, a0', a1', hb⟩ := hcut
  clear a0 a1 hC0 po
  rename World => w1
  have a0 := a0'
  have a1 := a1'
  replace hB := hB.trans (hb.mono hB.size)
  clear a0' a1' hb
  go_wp2_with (refine load_blk rfl 78 _ rfl a0 rfl Tryz.underlying78 rfl sizeCo ?_)
  refine (pg _).mono ?_
  rintro r w2 ⟨rfl, hb⟩
  replace x0 := x0.below hb
  replace a0 := a0.below hb
  replace a1 := a1.below hb
  replace hB := hB.trans (hb.mono hB.size)
  clear hb pg
  go_upto_if 29 with fail
  go_cut [3] from 30 to 32 (fun v wx => v = .pointer (some ⟨p, 0, none⟩) ∧ Blk p (pwc (Pw.mk s c.own c.conf c.mem C1 c.pr c.want c.rdy c.epoch o noFr noFr 0 0 noFr)) 116 wx ∧ Blk w.heap.size (coc c) 78 wx ∧ Blk (w.heap.size + 1) (pwc Pw.zero) 116 wx ∧ Below w.heap.size w wx)
  case first =>
   cases g with
   | true =>
    obtain rfl : C1 = c.cut := hC1.out.symm
    clear hC1
    go_wp2_with (first | refine load_part rfl 60 _ rfl (o := 51) a0 rfl (row8 c.cut) c.p_cut Tryz.underlying60 rfl sizeCt ?_ | (refine store_part rfl 60 _ _ rfl (off := 13) (cells := (mbc c.cut)) x0 rfl rfl sizeCt (show 13 + 8 ≤ 145 by decide) (mbc_one _) ?_; intro w3 x3 k3; rw [Pw.s_count] at x3))
    go_meet
    replace a0 := a0.kp1 k3 (by omega)
    replace a1 := a1.kp1 k3 (by omega)
    replace hB := hB.trans (k3.below1 (by omega) hB.size)
    clear k3
    exact ⟨rfl, x3, a0, a1, hB⟩
   | false =>
    obtain rfl : C1 = c.count := hC1.out.symm
    clear hC1
    go_wp2_with fail
    go_meet
    exact ⟨rfl, x0, a0, a1, hB⟩
  case rest =>
   obtain ⟨rfl, x0', a0', a1', hB'⟩ := hcut
   clear x0 a0 a1 hB
   rename World => WN
   have x0 := x0'
   have a0 := a0'
   have a1 := a1'
   have hB := hB'
   clear x0' a0' a1' hB'
   clear hC1
   have c1 := a0.cell 39 (.slice c.ka c.kn c.kc) rfl
   rw [hn] at c1
   have c2 := a0.cell 0 (.int .i64 c.self) rfl
   rw [hcs] at c2
   have c3 := x0.cell 34 (.int .u32 (o : Int)) rfl
   go_wp2_with fail
   refine (pA _ (lS.below hB)).mono ?_
   rintro r w4 ⟨rfl, hb⟩
   replace x0 := x0.below hb
   replace a0 := a0.below hb
   replace a1 := a1.below hb
   replace hB := hB.trans (hb.mono hB.size)
   clear hb pA c1 c2 c3
   go_upto_region 5 with ((refine store_part rfl 43 _ _ rfl (off := 35) (cells := (frc G0)) x0 rfl rfl sizeFr (show 35 + 36 ≤ 145 by decide) (frc_one _) ?_; intro w5 x5 k5; rw [Pw.s_f0] at x5))
   try simp only [Act.put]
   replace a0 := a0.kp1 k5 (by omega)
   replace a1 := a1.kp1 k5 (by omega)
   replace hB := hB.trans (k5.below1 (by omega) hB.size)
   clear k5
   have c3 := x5.cell 34 (.int .u32 (o : Int)) rfl
   clear x0
   have x0 := x5
   clear x5
   obtain ⟨T0, hT0⟩ : ∃ T, Hid (decide (0 < o) = T) := ⟨_, rfl⟩
   go_cut [46] from 44 to 45 (fun v wx => v = .bool T0 ∧ wx = w5)
   case first =>
    by_cases h0 : 0 < o
    ·have g0 : (0 : Int) < (o : Int) := by omega
     obtain rfl : T0 = true := by rw [← hT0.out]; simp [h0]
     go_wp2_with fail
     go_meet
     exact ⟨rfl, rfl⟩
    ·have g0 : ¬ (0 : Int) < (o : Int) := by omega
     obtain rfl : T0 = false := by rw [← hT0.out]; simp [h0]
     go_wp2_with fail
     go_meet
     exact ⟨rfl, rfl⟩
   case rest =>
   obtain ⟨rfl, rfl⟩ := hcut
   go_upto_if 46 with fail
   go_cut [3] from 47 to 58 (fun v wx => v = .pointer (some ⟨p, 0, none⟩) ∧ Blk p (pwc (Pw.mk s c.own c.conf c.mem C1 c.pr c.want c.rdy c.epoch o G0 G1 0 0 noFr)) 116 wx ∧ Blk w.heap.size (coc c) 78 wx ∧ Blk (w.heap.size + 1) (pwc Pw.zero) 116 wx ∧ Below w.heap.size w wx)
   case first =>
    by_cases h0 : 0 < o
    ·obtain rfl : T0 = true := by rw [← hT0.out]; simp [h0]
     obtain rfl : G1 = gotF (getK (s : Int) (o - 1) L) := by rw [← hG1.out, if_pos h0]
     obtain ⟨o1, ho1⟩ : ∃ v, o - 1 = v := ⟨_, rfl⟩
     have hw2 : IntKind.u32.wrap ((o : Int) - 1) = (o1 : Int) := by rw [IntKind.wrap_u32]; omega
     rw [ho1] at pB
     have HG : Hid (gotF (getK (s : Int) (o - 1) L) = gotF (getK (s : Int) o1 L)) := by show _ = _; rw [ho1]
     clear hG1 ho1
     have c1 := a0.cell 39 (.slice c.ka c.kn c.kc) rfl
     rw [hn] at c1
     have c2 := a0.cell 0 (.int .i64 c.self) rfl
     rw [hcs] at c2
     go_wp2_with fail
     refine (pB _ (lS.below hB)).mono ?_
     rintro r w6 ⟨rfl, hb⟩
     replace x0 := x0.below hb
     replace a0 := a0.below hb
     replace a1 := a1.below hb
     replace hB := hB.trans (hb.mono hB.size)
     clear hb pB c1 c2 c3
     go_wp2_with ((refine store_part rfl 43 _ _ rfl (off := 71) (cells := (frc (gotF (getK (s : Int) o1 L)))) x0 rfl rfl sizeFr (show 71 + 36 ≤ 145 by decide) (frc_one _) ?_; intro w7 x7 k7; rw [Pw.s_f1] at x7))
     go_meet
     replace a0 := a0.kp1 k7 (by omega)
     replace a1 := a1.kp1 k7 (by omega)
     replace hB := hB.trans (k7.below1 (by omega) hB.size)
     clear k7
     exact ⟨rfl, by rw [HG.out]; exact x7, a0, a1, hB⟩
    ·obtain rfl : T0 = false := by rw [← hT0.out]; simp [h0]
     obtain rfl : G1 = noFr := by rw [← hG1.out, if_neg h0]
     go_wp2_with fail
     go_meet
     exact ⟨rfl, x0, a0, a1, hB⟩
   case rest =>
    clear c3
    obtain ⟨rfl, x0', a0', a1', hB'⟩ := hcut
    clear x0 a0 a1 hB
    rename World => WN
    have x0 := x0'
    have a0 := a0'
    have a1 := a1'
    have hB := hB'
    clear x0' a0' a1' hB'
    clear hG1 hG0 pB
    have c1 := a0.cell 39 (.slice c.ka c.kn c.kc) rfl
    rw [hn] at c1
    have c2 := a0.cell 3 (.int .u32 (c.beat.now : Int)) rfl
    go_wp2_with fail
    refine (pC _ (lS.below hB)).mono ?_
    rintro r w6 ⟨rfl, hb⟩
    replace x0 := x0.below hb
    replace a0 := a0.below hb
    replace a1 := a1.below hb
    replace hB := hB.trans (hb.mono hB.size)
    clear hb pC c1 c2
    have hb := below_box w6 (.cells Kx.arr 53)
    have y0 := blk_new w6 Kx.arr 53
    have hpl := x0.lt
    go_upto_region 8 with (first | refine alloc_zero zeroKt rfl rfl ?_ | refine store_new rfl 53 _ _ rfl (cells := Kx.arr) rfl rfl sizeKt rfl Kx.arr_one ?_)
    try simp only [Act.put, List.setIfInBounds_toArray, List.set_cons_zero, List.set_cons_succ]
    generalize w6.alloc (Obj.cells Kx.arr 53) = W6 at y0 hb ⊢
    replace x0 := x0.below hb
    replace a0 := a0.below hb
    replace a1 := a1.below hb
    replace hB := hB.trans (hb.mono hB.size)
    clear hb 
    generalize w6.heap.size = Y at y0 hpl ⊢
    go_upto_if 68 with fail
    go_cut [3] from 69 to 78 (fun v wx => v = .pointer (some ⟨p, 0, none⟩) ∧ Blk p (pwc (Pw.mk s c.own c.conf c.mem C1 c.pr c.want c.rdy c.epoch o G0 G1 R0 R1 R2)) 116 wx ∧ Blk w.heap.size (coc c) 78 wx ∧ Blk (w.heap.size + 1) (pwc Pw.zero) 116 wx ∧ Below w.heap.size w wx)
    case first =>
     cases E with
     | true =>
      obtain rfl : R0 = 0 := hR0.out.symm
      obtain rfl : R1 = 0 := hR1.out.symm
      obtain rfl : R2 = noFr := hR2.out.symm
      go_wp2_with fail
      go_meet
      exact ⟨rfl, x0, a0, a1, hB⟩
     | false =>
      obtain rfl : R0 = ko := hR0.out.symm
      obtain rfl : R1 = Kx.rd := hR1.out.symm
      obtain rfl : R2 = Kx.f := hR2.out.symm
      go_upto_region 9 with fail
      replace x0 := x0.drew
      replace a0 := a0.drew
      replace a1 := a1.drew
      replace hB := hB.drew
      refine wp_region_held_drew (S := fun w' => Blk Y Kx.arr 53 w') (by kernel_rfl) y0.drew (fun hHeld => ?_)
      refine tkQ 0 hHeld ?_
      try simp only [yy]
      refine tkH 1 (v := ?v24) rfl (by kernel_rfl) (fun _ _ _ h => h) (Or.inl ⟨by rfl, ?hy24⟩) hHeld ?_
      case hy24 => (intro w hSw; have hc := hSw.cell 0 _ Kx.get0; clear hSw; go_simp; try with_reducible rfl)
      try simp only [yy]
      refine tkQ 2 hHeld ?_
      try simp only [yy]
      refine tkQ 3 hHeld ?_
      try simp only [yy]
      refine tkH 4 (v := ?v27) rfl (by kernel_rfl) (fun _ _ _ h => h) (Or.inl ⟨by rfl, ?hy27⟩) hHeld ?_
      case hy27 => (intro w hSw; have hc := hSw.cell 1 _ Kx.get1; clear hSw; go_simp; try with_reducible rfl)
      try simp only [yy]
      refine tkQ 5 hHeld ?_
      try simp only [yy]
      refine' tkH 6 (v := _) rfl (by kernel_rfl) (fun _ _ _ h => h) (yieldsIf_load_mid (by rfl) _ _ rfl Y 2 rfl (frv Kx.f) _ ?hS29 Tryz.underlying43 rfl sizeFr) hHeld ?_
      case hS29 => exact fun w h => h.range 2 _ Kx.frame
      try simp only [yy]
      refine tkQ 7 hHeld ?_
      try simp only [yy]
      refine rd1 8 (fun K hK => ?_)
      rw [if_pos (by rfl)]
      refine wp_store_one 37 _ _ rfl (off := 107) (.int .u32 (R0 : Int)) x0 rfl rfl rfl rfl sizeU32 (by rw [pwc_size]; decide) ?_
      intro u1 hn9 hk9
      rw [Pw.s_ro] at hn9
      replace x0 := hn9
      replace a0 := a0.kp1 hk9 (by omega)
      replace a1 := a1.kp1 hk9 (by omega)
      replace hB := hB.trans (hk9.below1 (by omega) hB.size)
      refine hK.out _ _ (hHeld.kp1 hk9 (by omega)) (fun hHeld => ?_)
      clear hK K hk9 hn9
      try simp only [yy]
      refine tkQ 9 hHeld ?_
      try simp only [yy]
      refine rd1 10 (fun K hK => ?_)
      rw [if_pos (by rfl)]
      refine wp_store_one 37 _ _ rfl (off := 108) (.int .u32 (Kx.rd : Int)) x0 rfl rfl rfl rfl sizeU32 (by rw [pwc_size]; decide) ?_
      intro u2 hn9 hk9
      rw [Pw.s_rr] at hn9
      replace x0 := hn9
      replace a0 := a0.kp1 hk9 (by omega)
      replace a1 := a1.kp1 hk9 (by omega)
      replace hB := hB.trans (hk9.below1 (by omega) hB.size)
      refine hK.out _ _ (hHeld.kp1 hk9 (by omega)) (fun hHeld => ?_)
      clear hK K hk9 hn9
      try simp only [yy]
      refine tkQ 11 hHeld ?_
      try simp only [yy]
      refine rd1 12 (fun K hK => ?_)
      rw [if_pos (by rfl)]
      refine wp_store_part 43 _ _ rfl (off := 109) (cells := frc Kx.f) x0 rfl rfl sizeFr (show 109 + 36 ≤ 145 by decide) (frc_one _) ?_
      intro u3 hn9 hk9
      rw [Pw.s_f2] at hn9
      replace x0 := hn9
      replace a0 := a0.kp1 hk9 (by omega)
      replace a1 := a1.kp1 hk9 (by omega)
      replace hB := hB.trans (hk9.below1 (by omega) hB.size)
      refine hK.out _ _ (hHeld.kp1 hk9 (by omega)) (fun hHeld => ?_)
      clear hK K hk9 hn9
      try simp only [yy]
      refine wpAnyH_done (by kernel_rfl) ?_ _
      go_wp2_with fail
      go_meet
      exact ⟨rfl, x0, a0, a1, hB⟩
    case rest =>
     obtain ⟨rfl, x0', a0', a1', hB'⟩ := hcut
     clear x0 a0 a1 hB
     rename World => WN
     have x0 := x0'
     have a0 := a0'
     have a1 := a1'
     have hB := hB'
     clear x0' a0' a1' hB'
     clear hR0 hR1 hR2 y0
     go_wp2_with (first | refine load_blk rfl 116 _ rfl x0 rfl Tryz.underlying116 rfl sizePk ?_ | (refine store_part rfl 116 _ _ rfl (off := 0) (cells := pwc (Pw.mk s c.own c.conf c.mem C1 c.pr c.want c.rdy c.epoch o G0 G1 R0 R1 R2)) a1 rfl rfl sizePk (Nat.le_refl _) (pwc_one _) ?_; intro w9 b9 k9; rw [pwc_all] at b9; have hB9 : Below w.heap.size w w9 := hB.trans (k9.below1 (by omega) hB.size)))
     exact bodyPost_ret (w := w9) (v := .agg (pwc (Pw.mk s c.own c.conf c.mem C1 c.pr c.want c.rdy c.epoch o G0 G1 R0 R1 R2))) (ret_one rfl rfl b9 Tryz.underlying116 rfl sizePk) rfl ⟨rfl, hB9⟩
end Go.Proofs.YthgfpdidilolgaaGreat
namespace Go.Proofs.YthgfpdidilolgaaGreat
set_option maxRecDepth 10000
open Go.RowKit Go.Sort
set_option linter.unusedVariables false
theorem Co.s_memi (c : Co) (i n : Nat) (h : i < 8) : (coc c).setIfInBounds (23 + i) (.int .u32 (n : Int)) = coc (⟨c.self, c.wait, c.own, c.beat, c.conf, put8 c.mem i n, c.count, c.ka, c.kn, c.kc, c.pr, c.want, c.cut, c.rdy, c.peers, c.epoch⟩ : Co) := by
 obtain rfl | rfl | rfl | rfl | rfl | rfl | rfl | rfl : i = 0 ∨ i = 1 ∨ i = 2 ∨ i = 3 ∨ i = 4 ∨ i = 5 ∨ i = 6 ∨ i = 7 := by omega
 all_goals kernel_rfl
set_option maxHeartbeats 4000000 in
theorem start_ok (sI : Int) (n : Nat) (wt : Int) (w : World) : Calls Tryz.prog 25 #[.int .i64 sI, .int .u32 (n : Int), .int .i64 wt] w fun e w' => e = .returned (.tuple #[.agg (coc (startC sI n wt)), .bool (startB sI n wt)]) ∧ Below w.heap.size w w' := by
 have a0 := blk_new w (coc Co.zero) 78
 have hB : Below w.heap.size w (w.alloc (.cells (coc Co.zero) 78)) := below_box w _
 obtain ⟨R, hR⟩ : ∃ R, Hid (startC sI n wt = R) := ⟨_, rfl⟩
 obtain ⟨Q, hQ⟩ : ∃ R, Hid (startB sI n wt = R) := ⟨_, rfl⟩
 rw [hR.out, hQ.out]
 have hno : ¬ (0 ≤ sI ∧ sI ≤ 7 ∧ n ≠ 0 ∧ 1 ≤ wt ∧ wt ≤ 1000) → R = Co.zero ∧ Q = false := fun h => by
  have e : startB sI n wt = false := decide_eq_false h
  rw [← hR.out, ← hQ.out, startC, e]
  exact ⟨rfl, rfl⟩
 go_enter Tryz.func25, Tryz.ntmps25
 go_upto_region 1 with (refine alloc_zero zeroCo rfl rfl ?_)
 try simp only [Act.put, List.setIfInBounds_toArray, List.set_cons_zero, List.set_cons_succ]
 generalize w.alloc (Obj.cells (coc Co.zero) 78) = W at a0 hB ⊢
 have hW := a0.lt
 by_cases h1 : sI < 0
 ·obtain ⟨rfl, rfl⟩ := hno (by omega)
  go_wp2_with (first | (refine build_as rfl 78 #[] rfl (C := coc Co.zero) ?_ ?_; kernel_rfl) | (refine store_part rfl 78 _ _ rfl (off := 0) (cells := coc Co.zero) a0 rfl rfl sizeCo (Nat.le_refl _) (coc_one _) ?_; intro w9 b9 k9; rw [Co.all] at b9; have hB9 : Below w.heap.size w w9 := hB.trans (k9.below1 (by omega) hB.size)))
  exact bodyPost_ret (w := w9) (v := .tuple #[.agg (coc Co.zero), .bool false]) (ret_two rfl rfl b9 Tryz.underlying78 rfl sizeCo rfl) rfl ⟨rfl, hB9⟩
 by_cases h2 : sI < 8
 ·by_cases h3 : n = 0
  ·subst h3
   obtain ⟨rfl, rfl⟩ := hno (by omega)
   have h2' : ¬ 8 ≤ sI := by omega
   go_wp2_with (first | (refine build_as rfl 78 #[] rfl (C := coc Co.zero) ?_ ?_; kernel_rfl) | (refine store_part rfl 78 _ _ rfl (off := 0) (cells := coc Co.zero) a0 rfl rfl sizeCo (Nat.le_refl _) (coc_one _) ?_; intro w9 b9 k9; rw [Co.all] at b9; have hB9 : Below w.heap.size w w9 := hB.trans (k9.below1 (by omega) hB.size)))
   exact bodyPost_ret (w := w9) (v := .tuple #[.agg (coc Co.zero), .bool false]) (ret_two rfl rfl b9 Tryz.underlying78 rfl sizeCo rfl) rfl ⟨rfl, hB9⟩
  ·have h3' : ¬ (n : Int) = 0 := by omega
   by_cases h4 : wt < 1
   ·obtain ⟨rfl, rfl⟩ := hno (by omega)
    have h2' : ¬ 8 ≤ sI := by omega
    go_wp2_with (first | (refine build_as rfl 78 #[] rfl (C := coc Co.zero) ?_ ?_; kernel_rfl) | (refine store_part rfl 78 _ _ rfl (off := 0) (cells := coc Co.zero) a0 rfl rfl sizeCo (Nat.le_refl _) (coc_one _) ?_; intro w9 b9 k9; rw [Co.all] at b9; have hB9 : Below w.heap.size w w9 := hB.trans (k9.below1 (by omega) hB.size)))
    exact bodyPost_ret (w := w9) (v := .tuple #[.agg (coc Co.zero), .bool false]) (ret_two rfl rfl b9 Tryz.underlying78 rfl sizeCo rfl) rfl ⟨rfl, hB9⟩
   by_cases h5 : 1000 < wt
   ·obtain ⟨rfl, rfl⟩ := hno (by omega)
    have h2' : ¬ 8 ≤ sI := by omega
    go_wp2_with (first | (refine build_as rfl 78 #[] rfl (C := coc Co.zero) ?_ ?_; kernel_rfl) | (refine store_part rfl 78 _ _ rfl (off := 0) (cells := coc Co.zero) a0 rfl rfl sizeCo (Nat.le_refl _) (coc_one _) ?_; intro w9 b9 k9; rw [Co.all] at b9; have hB9 : Below w.heap.size w w9 := hB.trans (k9.below1 (by omega) hB.size)))
    exact bodyPost_ret (w := w9) (v := .tuple #[.agg (coc Co.zero), .bool false]) (ret_two rfl rfl b9 Tryz.underlying78 rfl sizeCo rfl) rfl ⟨rfl, hB9⟩
   obtain ⟨s, rfl⟩ : ∃ s : Nat, sI = (s : Int) := ⟨sI.toNat, by omega⟩
   have hs : s < 8 := by omega
   have h2' : ¬ (8 : Int) ≤ (s : Int) := by omega
   have s1 : (0 : Int) ≤ (s : Int) := by omega
   have s0 : (s : Int) < 8 := by omega
   have hws : IntKind.u32.wrap (s : Int) = (s : Int) := by rw [IntKind.wrap_u32]; omega
   have e : startB (s : Int) n wt = true := decide_eq_true ⟨by omega, by omega, h3, by omega, by omega⟩
   obtain rfl : Q = true := by rw [← hQ.out, e]
   have eR : R = ⟨(s : Int), wt, n, Bt.zero, ⟨0, s, n⟩, put8 noMb s n, noMb, none, 0, 0, ⟨0, s, n⟩, put8 noMb s n, noMb, false, noPe, 0⟩ := by
    rw [← hR.out, startC, e, if_pos rfl, Int.toNat_natCast]
   clear hR hQ hno e
   have hb := below_box W (.cells (coc (Co.mk (s : Int) wt n Bt.zero Idn.zero noMb noMb none 0 0 Idn.zero noMb noMb false noPe 0)) 78)
   have q0 := blk_new W (coc (Co.mk (s : Int) wt n Bt.zero Idn.zero noMb noMb none 0 0 Idn.zero noMb noMb false noPe 0)) 78
   go_upto_region 4 with (first | (refine build_as rfl 78 #[(0, .tmp 28), (2, .tmp 29), (1, .tmp 30)] rfl (C := coc (Co.mk (s : Int) wt n Bt.zero Idn.zero noMb noMb none 0 0 Idn.zero noMb noMb false noPe 0)) ?_ ?_; kernel_rfl) | refine alloc_zero zeroCo rfl rfl ?_ | refine store_new rfl 78 _ _ rfl (cells := coc (Co.mk (s : Int) wt n Bt.zero Idn.zero noMb noMb none 0 0 Idn.zero noMb noMb false noPe 0)) rfl rfl sizeCo rfl (coc_one _) ?_)
   try simp only [Act.put, List.setIfInBounds_toArray, List.set_cons_zero, List.set_cons_succ]
   generalize W.alloc (Obj.cells (coc (Co.mk (s : Int) wt n Bt.zero Idn.zero noMb noMb none 0 0 Idn.zero noMb noMb false noPe 0)) 78) = W1 at q0 hb ⊢
   replace a0 := a0.below hb
   replace hB := hB.trans (hb.mono hB.size)
   clear hb 
   generalize W.heap.size = Y at q0 hW ⊢
   clear h1 h2 h3 h3' h4 h5 h2'
   go_upto_region 5 with (first | (refine build_as rfl 51 #[(1, .tmp 33), (2, .tmp 34)] rfl (C := (Idn.mk 0 s n).arr) ?_ ?_; kernel_rfl) | (refine store_part rfl 51 _ _ rfl (off := 20) (cells := (Idn.mk 0 s n).arr) q0 rfl rfl sizeIdn (show 20 + 3 ≤ 189 by decide) (Idn.arr_one _) ?_; intro w2 b2 k2; rw [Co.s_conf] at b2))
   try simp only [Act.put]
   go_upto_region 6 with (refine store_one rfl 37 _ _ rfl (off := 23 + s) (.int .u32 (n : Int)) b2 rfl rfl rfl rfl sizeU32 (by rw [coc_size]; omega) ?_; intro w3 b3 k3; rw [Co.s_memi _ s n hs] at b3)
   try simp only [Act.put]
   go_upto_region 7 with (first | refine load_part rfl 51 _ rfl (o := 20) b3 rfl (Idn.mk 0 s n).vals (Co.p_conf _) Tryz.underlying51 rfl sizeIdn ?_ | refine load_part rfl 55 _ rfl (o := 23) b3 rfl (row8 (put8 noMb s n)) (Co.p_mem _) Tryz.underlying55 rfl sizeMb ?_ | (refine store_part rfl 51 _ _ rfl (off := 40) (cells := (Idn.mk 0 s n).arr) b3 rfl rfl sizeIdn (show 40 + 3 ≤ 189 by decide) (Idn.arr_one _) ?_; intro w4 b4 k4; rw [Co.s_pr] at b4) | (refine store_part rfl 55 _ _ rfl (off := 43) (cells := (mbc (put8 noMb s n))) b4 rfl rfl sizeMb (show 43 + 8 ≤ 189 by decide) (mbc_one _) ?_; intro w5 b5 k5; rw [Co.s_want] at b5))
   try simp only [Act.put]
   have q5 : Blk Y (coc R) 78 w5 := by rw [eR]; exact b5
   clear b5 b4 b3 b2 q0 eR
   replace a0 := (((a0.kp1 k2 (by omega)).kp1 k3 (by omega)).kp1 k4 (by omega)).kp1 k5 (by omega)
   replace hB := hB.trans (k2.below1 (by omega) hB.size)
   replace hB := hB.trans (k3.below1 (by omega) hB.size)
   replace hB := hB.trans (k4.below1 (by omega) hB.size)
   replace hB := hB.trans (k5.below1 (by omega) hB.size)
   go_wp2_with (first | refine load_blk rfl 78 _ rfl q5 rfl Tryz.underlying78 rfl sizeCo ?_ | (refine store_part rfl 78 _ _ rfl (off := 0) (cells := coc R) a0 rfl rfl sizeCo (Nat.le_refl _) (coc_one _) ?_; intro w9 b9 k9; rw [Co.all] at b9; have hB9 : Below w.heap.size w w9 := hB.trans (k9.below1 (by omega) hB.size)))
   exact bodyPost_ret (w := w9) (v := .tuple #[.agg (coc R), .bool true]) (ret_two rfl rfl b9 Tryz.underlying78 rfl sizeCo rfl) rfl ⟨rfl, hB9⟩
 ·obtain ⟨rfl, rfl⟩ := hno (by omega)
  have h2' : 8 ≤ sI := by omega
  go_wp2_with (first | (refine build_as rfl 78 #[] rfl (C := coc Co.zero) ?_ ?_; kernel_rfl) | (refine store_part rfl 78 _ _ rfl (off := 0) (cells := coc Co.zero) a0 rfl rfl sizeCo (Nat.le_refl _) (coc_one _) ?_; intro w9 b9 k9; rw [Co.all] at b9; have hB9 : Below w.heap.size w w9 := hB.trans (k9.below1 (by omega) hB.size)))
  exact bodyPost_ret (w := w9) (v := .tuple #[.agg (coc Co.zero), .bool false]) (ret_two rfl rfl b9 Tryz.underlying78 rfl sizeCo rfl) rfl ⟨rfl, hB9⟩
end Go.Proofs.YthgfpdidilolgaaGreat
namespace Go.Proofs.YthgfpdidilolgaaGreat
set_option maxRecDepth 10000
open Go.RowKit Go.Sort
set_option linter.unusedVariables false
def px : Pk := (Pk.mk (fun i => if i = 0 ∨ i = 1 ∨ i = 3 ∨ i = 4 ∨ i = 22 ∨ i = 23 then 1 else 0) (fun i => by split <;> omega) false noFr noFr noFr)
def x0 : Co := startC 0 1 3
def x1 : Sg := tickS x0 [] noFr
def x2 : Sg := tickS x1.c x1.L noFr
def x3 : Sg := recvS x2.c x2.L px
def x4 : Sg := tickS x3.c x3.L noFr
theorem f1 : startB 0 1 3 = true := by decide
theorem f2 : startB 8 1 3 = false := by decide
theorem f3 : tickD x0 [] = true := by kernel_rfl
theorem f4 : x1.t.length = 1 := by kernel_rfl
theorem f5 : x1.t.map (fun h => h.k.rd) = [1] := by kernel_rfl
theorem f6 : tickD x1.c x1.L = true := by kernel_rfl
theorem send_simS {s u : Sg} (h : Sg.sim s u) (f : Nat → En) : Sg.sim (sendS s f) (sendS u f) ∧ sendB s.c = sendB u.c := by
 obtain ⟨c, L, t⟩ := s
 obtain ⟨d, L', t'⟩ := u
 obtain ⟨h1, h2, h3⟩ := h
 have g2 : L = L' := h2
 have g3 : t = t' := h3
 clear h2 h3
 subst g2
 subst g3
 exact send_sim h1 L t f
theorem goOn_simS {s u : Sg} (h : Sg.sim s u) : Sg.sim (goOnS s) (goOnS u) := by
 obtain ⟨c, L, t⟩ := s
 obtain ⟨d, L', t'⟩ := u
 obtain ⟨h1, h2, h3⟩ := h
 have g2 : L = L' := h2
 have g3 : t = t' := h3
 clear h2 h3
 subst g2
 subst g3
 exact goOn_sim h1 L t
theorem ctick_kp (c : Co) (L : List Kt) (f : Nat → En) (s : Nat) (hs : s < 8) (hcs : c.self = (s : Int)) (kf : c.fit) (a : Option Addr) (k : Nat) (hl : L.length * 352 ≤ 140737488351232) (w : World) (lS : Li Kt.vals 0 a L w) :
  Calls Tryz.prog 62 #[.agg (coc (c.kp a L.length k)), .agg (frc f)] w fun e w' => Did (tickS c L f) (tickD c L) w.heap.size e w' ∧ Below w.heap.size w w' := by
 have e1 : Sg.sim (tickS (c.kp a L.length k) L f) (tickS c L f) ∧ tickD (c.kp a L.length k) L = tickD c L := by
  have e0 : tick0 (c.kp a L.length k) = (tick0 c).kp a L.length k := propose_kp (c.wBeat (tickB c.beat)) _ a L.length k
  have h1 : Sg.sim (goOnS ⟨(tick0 c).kp a L.length k, L, []⟩) (goOnS ⟨tick0 c, L, []⟩) := goOn_sim (c := (tick0 c).kp a L.length k) (d := tick0 c) (fun _ _ _ => rfl) L []
  unfold tickS tickD tick1
  rw [e0]
  generalize goOnS ⟨(tick0 c).kp a L.length k, L, []⟩ = s1 at h1 ⊢
  generalize goOnS ⟨tick0 c, L, []⟩ = s2 at h1 ⊢
  exact send_simS h1 f
 refine (ctick_ok (c.kp a L.length k) L f s hs hcs kf.beat.now kf.epoch kf.count rfl hl w lS).mono fun e w' ⟨⟨a2, k2, ta, tk, h1, h2, h3⟩, hb⟩ => ⟨?_, hb⟩
 obtain ⟨⟨g1, g2, g3⟩, g4⟩ := e1
 rw [g1, g2, g3, g4] at h1
 rw [g2] at h2
 rw [g3] at h3
 exact ⟨a2, k2, ta, tk, h1, h2, h3⟩
theorem crecv_kp (c : Co) (L : List Kt) (p : Pk) (s : Nat) (hs : s < 8) (hcs : c.self = (s : Int)) (kf : c.fit) (a : Option Addr) (k : Nat) (hl : L.length * 352 ≤ 140737488351232) (w : World) (lS : Li Kt.vals 0 a L w) :
  Calls Tryz.prog 108 #[.agg (coc (c.kp a L.length k)), .agg (pkc p)] w fun e w' => Did (recvS c L p) (heedB c p) w.heap.size e w' ∧ Below w.heap.size w w' := by
 have e1 : Sg.sim (recvS (c.kp a L.length k) L p) (recvS c L p) := by
  have e0 : recv0 (c.kp a L.length k) p = (recv0 c p).kp a L.length k := adopC_kp (hearC c p) p a L.length k
  have h0 : Sg.sim (offS ⟨(recv0 c p).kp a L.length k, L, []⟩ p) (offS ⟨recv0 c p, L, []⟩ p) := off_sim (c := (recv0 c p).kp a L.length k) (d := recv0 c p) (fun _ _ _ => rfl) L [] p
  have h1 : Sg.sim (recvY (c.kp a L.length k) L p) (recvY c L p) := by
   unfold recvY
   rw [e0]
   generalize offS ⟨(recv0 c p).kp a L.length k, L, []⟩ p = s1 at h0 ⊢
   generalize offS ⟨recv0 c p, L, []⟩ p = s2 at h0 ⊢
   exact goOn_simS h0
  unfold recvS
  have e2 : heedB (c.kp a L.length k) p = heedB c p := rfl
  rw [e2]
  cases heedB c p
  ·exact ⟨fun _ _ _ => rfl, rfl, rfl⟩
  ·exact h1
 refine (crecv_ok (c.kp a L.length k) L p s hs hcs kf.count rfl hl w lS).mono fun e w' ⟨⟨a2, k2, ta, tk, h1, h2, h3⟩, hb⟩ => ⟨?_, hb⟩
 obtain ⟨g1, g2, g3⟩ := e1
 rw [g1, g2, g3] at h1
 rw [g2] at h2
 rw [g3] at h3
 exact ⟨a2, k2, ta, tk, h1, h2, h3⟩
theorem cpack_kp (c : Co) (L : List Kt) (s : Nat) (hs : s < 8) (hcs : c.self = (s : Int)) (kf : c.fit) (a : Option Addr) (k : Nat) (hl : L.length * 352 ≤ 140737488355328) (w : World) (lS : Li Kt.vals 0 a L w) :
  Calls Tryz.prog 105 #[.agg (coc (c.kp a L.length k))] w fun e w' => e = .returned (.agg (pwc (packW c L))) ∧ Below w.heap.size w w' :=
 packet_ok (c.kp a L.length k) L s hs hcs kf.beat.now kf.count rfl hl w lS
end Go.Proofs.YthgfpdidilolgaaGreat
namespace Go.Proofs.YthgfpdidilolgaaGreat
set_option maxRecDepth 10000
open Go.RowKit Go.Sort
set_option linter.unusedVariables false
def Kt.bare (x : Kt) : Kt := ⟨x.fr, x.rd, noFr, x.lt⟩
def Hp.bare (x : Hp) : Hp := ⟨x.view, x.k.bare, x.conf, x.mem⟩
theorem like_bare {x y : Kt} (h : x.like y) : x.bare = y.bare := by
 obtain ⟨a, b, f, l⟩ := x
 obtain ⟨c, d, g, m⟩ := y
 obtain ⟨h1, h2⟩ := h
 change a = c at h1
 change b = d at h2
 subst h1 h2
 rfl
theorem likes_bare : ∀ (l k : List Kt), likes l k → l.map Kt.bare = k.map Kt.bare
 | [], [], _ => rfl
 | a :: l, b :: k, h => by rw [List.map_cons, List.map_cons, like_bare h.1, likes_bare l k h.2]
 | [], _ :: _, h => h.elim
 | _ :: _, [], h => h.elim
theorem likes_takeH : ∀ (l k : List Kt), likes l k → (l.map takeH).map Hp.bare = (k.map takeH).map Hp.bare
 | [], [], _ => rfl
 | a :: l, b :: k, h => by
  rw [List.map_cons, List.map_cons, List.map_cons, List.map_cons, likes_takeH l k h.2]
  congr 1
  show Hp.mk false a.bare Idn.zero noMb = Hp.mk false b.bare Idn.zero noMb
  rw [like_bare h.1]
 | [], _ :: _, h => h.elim
 | _ :: _, [], h => h.elim
structure Bs (s u : Sg) : Prop where
 c : ∀ a n k, s.c.kp a n k = u.c.kp a n k
 L : likes s.L u.L
 t : s.t.map Hp.bare = u.t.map Hp.bare
theorem Bs.goOn {s u : Sg} (h : Bs s u) : Bs (goOnS s) (goOnS u) := by
 obtain ⟨sc, sL, st⟩ := s
 obtain ⟨uc, uL, ut⟩ := u
 obtain ⟨hc, hL, ht⟩ := h
 obtain ⟨a, n, k, e⟩ := eq_kp hc
 change sc = uc.kp a n k at e
 subst e
 unfold goOnS
 show Bs (if insB (readyC (uc.kp a n k)) = true then instS ⟨readyC (uc.kp a n k), sL, st⟩ else ⟨readyC (uc.kp a n k), sL, st⟩) (if insB (readyC uc) = true then instS ⟨readyC uc, uL, ut⟩ else ⟨readyC uc, uL, ut⟩)
 rw [readyC_kp]
 have e : insB ((readyC uc).kp a n k) = insB (readyC uc) := rfl
 rw [e]
 cases insB (readyC uc)
 ·exact ⟨fun _ _ _ => rfl, hL, ht⟩
 ·refine ⟨fun _ _ _ => rfl, trivial, ?_⟩
  show (st ++ [viewH (readyC uc)]).map Hp.bare = (ut ++ [viewH (readyC uc)]).map Hp.bare
  rw [List.map_append, List.map_append]
  have ht' : st.map Hp.bare = ut.map Hp.bare := ht
  rw [ht']
theorem Bs.send {s u : Sg} (h : Bs s u) (f g : Nat → En) : Bs (sendS s f) (sendS u g) := by
 obtain ⟨sc, sL, st⟩ := s
 obtain ⟨uc, uL, ut⟩ := u
 obtain ⟨hc, hL, ht⟩ := h
 obtain ⟨a, n, k, e⟩ := eq_kp hc
 change sc = uc.kp a n k at e
 subst e
 have e : sendB (uc.kp a n k) = sendB uc := rfl
 unfold sendS
 show Bs (if sendB (uc.kp a n k) = true then sentS ⟨uc.kp a n k, sL, st⟩ f else ⟨uc.kp a n k, sL, st⟩) (if sendB uc = true then sentS ⟨uc, uL, ut⟩ g else ⟨uc, uL, ut⟩)
 rw [e]
 cases sendB uc
 ·exact ⟨fun _ _ _ => rfl, hL, ht⟩
 ·have hk : (nextK uc f).like (nextK uc g) := ⟨rfl, rfl⟩
  refine ⟨fun _ _ _ => rfl, ?_, ?_⟩
  ·exact likes_snoc _ _ _ _ (likes_young (nextK uc f) (nextK uc g) hk _ _ hL) hk
  ·show (st ++ [takeH (nextK uc f)]).map Hp.bare = (ut ++ [takeH (nextK uc g)]).map Hp.bare
   have ht' : st.map Hp.bare = ut.map Hp.bare := ht
   rw [List.map_append, List.map_append, ht']
   rfl
end Go.Proofs.YthgfpdidilolgaaGreat
