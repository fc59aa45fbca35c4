/-
  Of the texts beneath these laws, in their order: CeT, CeD.
  Each theorem says its own conditions.
-/
import Derived.Test.YthgfpdidilolgaaGreatZ19
import Derived.Test.YthgfpdidilolgaaGreatZ20
import Derived.Test.YthgfpdidilolgaaGreatZ21
import Derived.Test.YthgfpdidilolgaaGreatZ05
import Derived.Test.YthgfpdidilolgaaGreatZ04
import Derived.Test.YthgfpdidilolgaaGreatZ16
namespace Go.Proofs.YthgfpdidilolgaaGreat
set_option maxRecDepth 10000
set_option linter.unusedSimpArgs false
open Go.RowKit Go.Sort
set_option linter.unusedVariables false
set_option maxHeartbeats 8000000 in
theorem ctick_ok (c : Co) (L : List Kt) (f : Nat → En) (s : Nat) (hs : s < 8) (hcs : c.self = (s : Int)) (kb : c.beat.now < 4294967296) (ke : c.epoch < 4294967296) (kc : ∀ i, c.count i < 4294967296) (hn : c.kn = L.length) (hl : L.length * 352 ≤ 140737488351232) (w : World) (lS : Li Kt.vals 0 c.ka L w) :
  Calls Tryz.prog 62 #[.agg (coc c), .agg (frc f)] w fun e w' => Did (tickS c L f) (tickD c L) w.heap.size e w' ∧ Below w.heap.size w w' := by
 obtain ⟨a0, a1, a2', hB⟩ := three_blk (T0 := 78) (T1 := 43) (T2 := 78) (C0 := coc c) (C1 := (frc f)) (C2 := coc Co.zero) (w := w) rfl
 go_enter Tryz.func62, Tryz.ntmps62
 go_upto_region 1 with (refine alloc_zero zeroCo rfl rfl ?_)
 try simp only [Act.put, List.setIfInBounds_toArray, List.set_cons_zero, List.set_cons_succ]
 try simp only [alloc_size]
 generalize ((w.alloc (Obj.cells (coc c) 78)).alloc (Obj.cells (frc f) 43)).alloc (Obj.cells (coc Co.zero) 78) = W at a0 a1 a2' hB ⊢
 have hW2 := a2'.lt
 go_wp2_with (refine load_blk rfl 78 _ rfl a0 rfl Tryz.underlying78 rfl sizeCo ?_)
 refine (begin_ok c L hn (by omega) _ (lS.below hB)).mono ?_
 rintro r w1 ⟨⟨a, k, rfl, hg⟩, hb⟩
 have hWb := hb.size
 replace a1 := a1.below hb
 replace a2' := a2'.below hb
 replace hB := hB.trans (hb.mono hB.size)
 clear hb a0 lS
 have hg0 := hg
 obtain ⟨q, hq⟩ : ∃ q, Hid (c.kp a L.length k = q) := ⟨_, rfl⟩
 rw [hq.out]
 have hb := below_box w1 (.cells (unc q (.slice none 0 0)) 166)
 have bP := blk_new w1 (unc q (.slice none 0 0)) 166
 have hsz1 : (w1.alloc (.cells (unc q (.slice none 0 0)) 166)).heap.size = w1.heap.size + 1 := alloc_size _ _
 go_upto_region 2 with (first | refine alloc_zero zeroUn rfl rfl ?_ | refine store_new rfl 166 _ _ rfl (cells := unc q (.slice none 0 0)) rfl rfl sizeUn rfl (unc_one _ _ _ _) ?_)
 try simp only [Act.put, List.setIfInBounds_toArray, List.set_cons_zero, List.set_cons_succ]
 generalize w1.alloc (Obj.cells (unc q (.slice none 0 0)) 166) = W1 at bP hb hsz1 ⊢
 replace a1 := a1.below hb
 replace a2' := a2'.below hb
 replace hg := hg.below hb
 replace hB := hB.trans (hb.mono hB.size)
 clear hb 
 have hO : Off a L w1.heap.size := Off.lg hg0 _ (.inr (Nat.le_refl _))
 clear hg0
 have hL : Li Kt.vals (w.heap.size + 1 + 1 + 1) a L W1 := hg.li.mono (by omega)
 clear hg
 obtain ⟨P, hP⟩ : ∃ P, w1.heap.size = P := ⟨_, rfl⟩
 rw [hP] at bP hO hsz1 hWb ⊢
 clear hP
 have eb : Hid (q.beat = c.beat) := by show q.beat = c.beat; rw [← hq.out]; rfl
 have pt := tick_ok q.beat
 have hB0 := hB.size
 have kP0 : Kp [P] W1 W1 := Kp.refl _ _
 go_wp2_with (refine load_part rfl 72 _ rfl (o := 3) bP rfl q.beat.vals (un_beat _ _) Tryz.underlying72 rfl sizeBt ?_)
 refine (pt _).mono ?_
 rintro r w2 ⟨rfl, hb⟩
 replace kP0 : Kp [P] W1 w2 := kP0.trans (Kp.of_below hb)
 replace a1 := a1.below hb
 replace a2' := a2'.below hb
 replace bP := bP.below hb
 replace hL := hL.below hb
 replace hB := hB.trans (hb.mono hB.size)
 clear hb pt
 go_upto_region 3 with ((refine store_part rfl 72 _ _ rfl (off := 3) (cells := (tickB q.beat).arr) bP rfl rfl sizeBt (show 3 + 17 ≤ 190 by decide) (Bt.arr_one _) ?_; intro w3 b3 k3; rw [unc_put _ _ _ 3 _ (Co.s_beat q (tickB q.beat)) (show 3 + 17 ≤ 189 by decide)] at b3; have kp3 := kP0.trans (k3.mono (fun i hi => by simp at hi; simp [hi]))))
 try simp only [Act.put]
 replace a1 := a1.kp1 k3 (by omega)
 replace a2' := a2'.kp1 k3 (by omega)
 replace hL := hL.off k3 (fun y hy => by simp at hy; subst hy; exact hO)
 replace hB := hB.trans (k3.below1 (by omega) hB.size)
 clear bP k3 kp3 kP0
 have bP : Blk P (unc (q.wBeat (tickB q.beat)) (.slice none 0 0)) 166 w3 := b3
 clear b3
 obtain ⟨d, hd⟩ : ∃ d, Hid (q.wBeat (tickB q.beat) = d) := ⟨_, rfl⟩
 rw [hd.out] at bP
 have d1 : d.self = (s : Int) := by rw [← hd.out, ← hq.out]; exact hcs
 have d2 : d.beat.now < 4294967296 := by
  rw [← hd.out]
  show (if q.beat.now < 4294967295 then q.beat.now + 1 else q.beat.now) < 4294967296
  rw [eb.out]
  split <;> omega
 have d3 : d.epoch < 4294967296 := by rw [← hd.out, ← hq.out]; exact ke
 go_wp2_with fail
 refine (upropose_ok P d (.slice none 0 0) s hs d1 d2 d3 _ bP).mono ?_
 rintro r w4 ⟨rfl, b4, k4⟩
 replace a1 := a1.kp1 k4 (by omega)
 replace a2' := a2'.kp1 k4 (by omega)
 replace hL := hL.off k4 (fun y hy => by simp at hy; subst hy; exact hO)
 replace hB := hB.trans (k4.below1 (by omega) hB.size)
 clear bP k4
 have e4 : proposeC d (reachC d) = (tick0 c).kp a L.length k := by
  rw [← hd.out, ← hq.out]
  exact propose_kp (c.wBeat (tickB c.beat)) _ a L.length k
 rw [e4] at b4
 have hU : Uv 166 (w.heap.size + 1 + 1 + 1) P ⟨tick0 c, L, []⟩ w4 := ⟨a, k, none, 0, b4, hL, Lg.none _ _ _, hO, fun g hg => by simp [blkOf] at hg⟩
 clear b4 hL hO e4 d1 d2 d3 hd hq eb
 go_wp2_with fail
 refine (goOn_ok (w.heap.size + 1 + 1 + 1) P ⟨tick0 c, L, []⟩ (by simp) _ hU).mono ?_
 rintro r w5 ⟨rfl, hV, hb⟩
 have hPw : P ≤ w4.heap.size := Nat.le_of_lt hU.lt
 replace a1 := a1.und hb (by omega)
 replace a2' := a2'.und hb (by omega)
 replace hB := hB.trans (hb.mono (by omega))
 clear hb hU
 obtain ⟨s1, hs1⟩ : ∃ s1, Hid (goOnS ⟨tick0 c, L, []⟩ = s1) := ⟨_, rfl⟩
 have g1 : s1.c.self = (s : Int) := by rw [← hs1.out, goOn_self]; exact (tick0_self c).trans hcs
 have g2 : ∀ i, s1.c.count i < 4294967296 := by rw [← hs1.out]; exact goOn_count _ (by show ∀ i, (tick0 c).count i < _; rw [tick0_count]; exact kc)
 have g3 : s1.L.length ≤ L.length ∧ s1.t.length ≤ 1 := by rw [← hs1.out]; exact goOn_len _
 have eS : tickS c L f = sendS s1 f := by rw [tickS, tick1, hs1.out]
 have eD : tickD c L = sendB s1.c := by rw [tickD, tick1, hs1.out]
 rw [hs1.out] at hV
 have hfin : ∀ e w', Did (sendS s1 f) (sendB s1.c) w.heap.size e w' → Did (tickS c L f) (tickD c L) w.heap.size e w' := fun e w' h => by rw [eS, eD]; exact h
 clear hs1 eS eD
 go_wp2_with (refine load_blk rfl 43 _ rfl a1 rfl Tryz.underlying43 rfl sizeFr ?_)
 refine (send_ok (w.heap.size + 1 + 1 + 1) P s1 f s hs g1 g2 (by omega) (by omega) (by omega) _ hV).mono ?_
 rintro r w6 ⟨rfl, hU, hb⟩
 have hPv : P ≤ w5.heap.size := Nat.le_of_lt hV.lt
 replace a2' := a2'.und hb (by omega)
 replace hB := hB.trans (hb.mono (by omega))
 clear hb hV a1
 obtain ⟨s2, hs2⟩ : ∃ s2, sendS s1 f = s2 := ⟨_, rfl⟩
 obtain ⟨bb, hbb⟩ : ∃ b, sendB s1.c = b := ⟨_, rfl⟩
 rw [hs2] at hU hfin
 rw [hbb] at hfin ⊢
 clear hs2 hbb g1 g2 g3
 obtain ⟨a2, k2, ta, tk, b2, hL2, hG2, hO2, hO3⟩ := hU
 go_upto_region 6 with fail
 have hT2 : Li Hp.vals (P + 1) ta s2.t w6.drew := (hG2.li).below (Below.refl _ _).drew
 replace hL2 := hL2.below (Below.refl _ _).drew
 replace a2' := a2'.drew
 replace hB := hB.drew
 have hpl := b2.lt
 clear hG2
 refine wp_region_held_drew (S := fun w' => Blk P (unc (s2.c.kp a2 s2.L.length k2) (.slice ta s2.t.length tk)) 166 w') (by kernel_rfl) b2.drew (fun hHeld => ?_)
 refine tkQ 0 hHeld ?_
 try simp only [yy]
 refine' tkH 1 (v := _) rfl (by kernel_rfl) (fun _ _ _ h => h) (yieldsIf_load_mid (by rfl) _ _ rfl P 0 rfl (col (s2.c.kp a2 s2.L.length k2)) _ ?hS2 Tryz.underlying78 rfl sizeCo) hHeld ?_
 case hS2 => exact fun w h => h.range 0 _ (unc_core _ _)
 try simp only [yy]
 refine tkQ 2 hHeld ?_
 try simp only [yy]
 refine tkQ 3 hHeld ?_
 try simp only [yy]
 refine tkH 4 (v := ?v5) rfl (by kernel_rfl) (fun _ _ _ h => h) (Or.inl ⟨by rfl, ?hy5⟩) hHeld ?_
 case hy5 => (intro w hSw; have hc : w.cell? ⟨P, 189, none⟩ = some (.slice ta s2.t.length tk) := hSw.cell 189 _ rfl; clear hSw; go_simp; try with_reducible rfl)
 try simp only [yy]
 refine rd1 5 (fun K hK => ?_)
 rw [if_pos (by rfl)]
 refine wp_store_all 78 _ _ rfl (cells := coc (s2.c.kp a2 s2.L.length k2)) a2' rfl rfl sizeCo rfl (coc_one _) ?_
 intro u1 hn9 hk9
 replace hL2 := hL2.off hk9 (fun y hy => by simp at hy; subst hy; exact Off.li hL2 _ (.inl (by omega)))
 replace hT2 := hT2.off hk9 (fun y hy => by simp at hy; subst hy; exact Off.li hT2 _ (.inl (by omega)))
 replace hB := hB.trans (hk9.below1 (by omega) hB.size)
 refine hK.out _ _ (hHeld.kp1 hk9 (by omega)) (fun hHeld => ?_)
 clear hK K hk9
 try simp only [yy]
 refine tkQ 6 hHeld ?_
 try simp only [yy]
 refine tkQ 7 hHeld ?_
 try simp only [yy]
 refine wpAnyH_done (by kernel_rfl) ?_ _
 go_wp2_with fail
 exact bodyPost_ret (w := _) (v := .tuple #[.agg (coc (s2.c.kp a2 s2.L.length k2)), .bool bb, .slice ta s2.t.length tk]) (ret_ctt rfl rfl hn9 Tryz.underlying78 rfl sizeCo rfl rfl) rfl ⟨hfin _ _ ⟨a2, k2, ta, tk, rfl, hL2.mono (by omega), hT2.mono (by omega)⟩, hB⟩
end Go.Proofs.YthgfpdidilolgaaGreat
namespace Go.Proofs.YthgfpdidilolgaaGreat
set_option maxRecDepth 10000
set_option linter.unusedSimpArgs false
open Go.RowKit Go.Sort
set_option linter.unusedVariables false
def fillTo (o j : Nat) : Nat → Nat := fun i => if i < j then o else 0
theorem fill_zero (o : Nat) : mbc (fillTo o 0) = mbc noMb := rfl
theorem fill_full (o : Nat) : mbc (fillTo o 8) = mbc (fun _ => o) := rfl
theorem fill_set (o j : Nat) (h : j < 8) : (mbc (fillTo o j)).setIfInBounds j (.int .u32 (o : Int)) = mbc (fillTo o (j + 1)) := by
 rw [mbc_set _ j o h]
 refine mbc_ext fun i _ => ?_
 unfold fillTo
 by_cases e : i = j
 ·subst e; simp
 ·by_cases l : i < j
  ·simp [e, l, show i < j + 1 by omega]
  ·simp [e, l, show ¬ i < j + 1 by omega]
set_option maxHeartbeats 4000000 in
theorem most_ok (P : Nat) (c : Co) (v : Value) (s : Nat) (hs : s < 8) (hcs : c.self = (s : Int)) (w : World) (b0 : Blk P (unc c v) 166 w) :
  Calls Tryz.prog 196 #[.pointer (some ⟨P, 0, none⟩)] w fun e w' => e = .returned (.tuple #[.agg (mbc (mostC c)), .bool (mostB c)]) ∧ Below w.heap.size w w' := by
 have hP := b0.lt
 have a0 := blk_new w (mbc noMb) 60
 have hb := below_box w (.cells (mbc noMb) 60)
 have pg := gathers_ok c
 have pt := target_ok c
 have pa := all_ok c
 have po := own_ok c s hs hcs
 obtain ⟨g, hg⟩ : ∃ t, gathB c = t := ⟨_, rfl⟩
 obtain ⟨A, hA⟩ : ∃ t, allB c = t := ⟨_, rfl⟩
 obtain ⟨M, HM⟩ : ∃ M, Hid (mostC c = M) := ⟨_, rfl⟩
 obtain ⟨Q, HQ⟩ : ∃ M, Hid (mostB c = M) := ⟨_, rfl⟩
 rw [HM.out, HQ.out]
 rw [hg] at pg
 rw [hA] at pa
 go_enter Tryz.func196, Tryz.ntmps196
 go_upto_region 1 with (refine alloc_zero zeroCt rfl rfl ?_)
 try simp only [Act.put, List.setIfInBounds_toArray, List.set_cons_zero, List.set_cons_succ]
 try simp only [alloc_size]
 generalize w.alloc (Obj.cells (mbc noMb) 60) = W at a0 hb ⊢
 have bP := b0.below hb
 have hB := hb
 clear b0 hb
 go_wp2_with (refine load_part rfl 78 _ rfl (o := 0) bP rfl (col c) (unc_core _ _) Tryz.underlying78 rfl sizeCo ?_)
 refine (pg _).mono ?_
 rintro r w1 ⟨rfl, hb⟩
 replace a0 := a0.below hb
 replace bP := bP.below hb
 replace hB := hB.trans (hb.mono hB.size)
 clear hb pg
 cases g with
 | true =>
  obtain rfl : M = targC c := by rw [← HM.out, mostC, hg]; rfl
  have e2 : Q = (!c.rdy && A) := by rw [← HQ.out, mostB, hg, hA]; rfl
  clear HM HQ hg hA po
  go_upto_region 2 with fail
  have hC0 := hB.drew
  have x0 := a0.drew
  clear hB a0
  obtain ⟨rr, hr⟩ : ∃ t, c.rdy = t := ⟨_, rfl⟩
  rw [hr] at e2
  cases rr with
  | true =>
   obtain rfl : Q = false := by rw [e2]; rfl
   clear pa e2
   refine wp_region_held_drew (S := fun w' => Blk P (unc c v) 166 w') (by kernel_rfl) bP.drew (fun hHeld => ?_)
   refine tkQ 0 hHeld ?_
   try simp only [yy]
   refine tkQ 1 hHeld ?_
   try simp only [yy]
   refine tkQ 2 hHeld ?_
   try simp only [yy]
   refine' tkH 3 (v := _) rfl (by kernel_rfl) (fun _ _ _ h => h) (yieldsIf_load_mid (by rfl) _ _ rfl P 0 rfl (col c) _ ?hS4 Tryz.underlying78 rfl sizeCo) hHeld ?_
   case hS4 => exact fun w h => h.range 0 _ (unc_core _ _)
   try simp only [yy]
   refine tkQ 5 hHeld ?_
   try simp only [yy]
   refine tkQ 6 hHeld ?_
   try simp only [yy]
   refine tkQ 7 hHeld ?_
   try simp only [yy]
   refine tkQ 8 hHeld ?_
   try simp only [yy]
   refine tkH 9 (v := ?v9) rfl (by kernel_rfl) (fun _ _ _ h => h) (Or.inl ⟨by rfl, ?hy9⟩) hHeld ?_
   case hy9 => (intro w hSw; have hc : w.cell? ⟨P, 59, none⟩ = some (.bool true) := (hSw.cell 59 (.bool c.rdy) rfl).trans (by rw [hr]); clear hSw; go_simp; try with_reducible rfl)
   try simp only [yy]
   refine tkQ 10 hHeld ?_
   try simp only [yy]
   refine rd1 4 (fun K hK => ?_)
   go_simp
   go_wp2_with (refine (pt _).mono ?_; rintro r u1 ⟨rfl, hb⟩)
   have hC1 := hC0.trans (hb.mono hC0.size)
   have x1 := x0.below hb
   refine hK.out _ _ (hHeld.below hb) (fun hHeld => ?_)
   clear hK K hb hC0 x0
   refine tkQ 11 hHeld ?_
   try simp only [yy]
   refine tkU 12 hHeld ?_
   try simp only [yy]
   refine tkU 13 hHeld ?_
   try simp only [yy]
   refine tkU 14 hHeld ?_
   try simp only [yy]
   refine tkU 15 hHeld ?_
   try simp only [yy]
   refine tkU 16 hHeld ?_
   try simp only [yy]
   refine tkQ 17 hHeld ?_
   try simp only [yy]
   refine rd1 18 (fun K hK => ?_)
   rw [if_pos (by rfl)]
   refine wp_store_all 60 _ _ rfl (cells := (mbc (targC c))) x1 rfl rfl sizeCt rfl (mbc_one _) ?_
   intro u2 hn hk
   have hC2 := hC1.trans (hk.below (by simp <;> omega) hC1.size)
   have x2 := hn
   refine hK.out _ _ (hHeld.kp hk (by simp <;> omega)) (fun hHeld => ?_)
   clear hK K hk hn hC1 x1
   try simp only [yy]
   refine tkQ 19 hHeld ?_
   try simp only [yy]
   refine wpAnyH_done (by kernel_rfl) ?_ _
   go_wp2_with fail
   exact bodyPost_ret (w := _) (v := .tuple #[.agg (mbc (targC c)), .bool false]) (ret_two rfl rfl x2 Tryz.underlying60 rfl sizeCt rfl) rfl ⟨rfl, hC2⟩
  | false =>
   obtain rfl : Q = A := by rw [e2]; rfl
   clear e2
   refine wp_region_held_drew (S := fun w' => Blk P (unc c v) 166 w') (by kernel_rfl) bP.drew (fun hHeld => ?_)
   refine tkQ 0 hHeld ?_
   try simp only [yy]
   refine tkQ 1 hHeld ?_
   try simp only [yy]
   refine tkQ 2 hHeld ?_
   try simp only [yy]
   refine' tkH 3 (v := _) rfl (by kernel_rfl) (fun _ _ _ h => h) (yieldsIf_load_mid (by rfl) _ _ rfl P 0 rfl (col c) _ ?hS22 Tryz.underlying78 rfl sizeCo) hHeld ?_
   case hS22 => exact fun w h => h.range 0 _ (unc_core _ _)
   try simp only [yy]
   refine tkQ 5 hHeld ?_
   try simp only [yy]
   refine tkQ 6 hHeld ?_
   try simp only [yy]
   refine tkQ 7 hHeld ?_
   try simp only [yy]
   refine tkQ 8 hHeld ?_
   try simp only [yy]
   refine tkH 9 (v := ?v27) rfl (by kernel_rfl) (fun _ _ _ h => h) (Or.inl ⟨by rfl, ?hy27⟩) hHeld ?_
   case hy27 => (intro w hSw; have hc : w.cell? ⟨P, 59, none⟩ = some (.bool false) := (hSw.cell 59 (.bool c.rdy) rfl).trans (by rw [hr]); clear hSw; go_simp; try with_reducible rfl)
   try simp only [yy]
   refine tkQ 10 hHeld ?_
   try simp only [yy]
   refine rd1 4 (fun K hK => ?_)
   go_simp
   go_wp2_with (refine (pt _).mono ?_; rintro r u1 ⟨rfl, hb⟩)
   have hC1 := hC0.trans (hb.mono hC0.size)
   have x1 := x0.below hb
   refine hK.out _ _ (hHeld.below hb) (fun hHeld => ?_)
   clear hK K hb hC0 x0
   refine tkQ 11 hHeld ?_
   try simp only [yy]
   refine tkQ 12 hHeld ?_
   try simp only [yy]
   refine tkQ 13 hHeld ?_
   try simp only [yy]
   refine tkQ 14 hHeld ?_
   try simp only [yy]
   refine' tkH 15 (v := _) rfl (by kernel_rfl) (fun _ _ _ h => h) (yieldsIf_load_mid (by rfl) _ _ rfl P 0 rfl (col c) _ ?hS33 Tryz.underlying78 rfl sizeCo) hHeld ?_
   case hS33 => exact fun w h => h.range 0 _ (unc_core _ _)
   try simp only [yy]
   refine rd1 16 (fun K hK => ?_)
   go_simp
   go_wp2_with (refine (pa _).mono ?_; rintro r u2 ⟨rfl, hb⟩)
   have hC2 := hC1.trans (hb.mono hC1.size)
   have x2 := x1.below hb
   refine hK.out _ _ (hHeld.below hb) (fun hHeld => ?_)
   clear hK K hb hC1 x1
   refine tkQ 17 hHeld ?_
   try simp only [yy]
   refine rd1 18 (fun K hK => ?_)
   rw [if_pos (by rfl)]
   refine wp_store_all 60 _ _ rfl (cells := (mbc (targC c))) x2 rfl rfl sizeCt rfl (mbc_one _) ?_
   intro u3 hn hk
   have hC3 := hC2.trans (hk.below (by simp <;> omega) hC2.size)
   have x3 := hn
   refine hK.out _ _ (hHeld.kp hk (by simp <;> omega)) (fun hHeld => ?_)
   clear hK K hk hn hC2 x2
   try simp only [yy]
   refine tkQ 19 hHeld ?_
   try simp only [yy]
   refine wpAnyH_done (by kernel_rfl) ?_ _
   go_wp2_with fail
   exact bodyPost_ret (w := _) (v := .tuple #[.agg (mbc (targC c)), .bool Q]) (ret_two rfl rfl x3 Tryz.underlying60 rfl sizeCt rfl) rfl ⟨rfl, hC3⟩
 | false =>
  obtain rfl : M = fun _ => ownN c := by rw [← HM.out, mostC, hg]; rfl
  obtain rfl : Q = true := by rw [← HQ.out, mostB, hg]; rfl
  clear HM HQ hg hA pa pt
  have hb := below_box w1 (.cells (mbc noMb) 60)
  have a1 := blk_new w1 (mbc noMb) 60
  go_upto_region 5 with (refine alloc_zero zeroCt rfl rfl ?_)
  try simp only [Act.put, List.setIfInBounds_toArray, List.set_cons_zero, List.set_cons_succ]
  generalize w1.alloc (Obj.cells (mbc noMb) 60) = W2 at a1 hb ⊢
  have hq := a0.lt
  replace a0 := a0.below hb
  replace bP := bP.below hb
  replace hB := hB.trans (hb.mono hB.size)
  clear hb 
  rw [← fill_zero (ownN c)] at a1
  generalize w1.heap.size = q at a1 hq ⊢
  go_loopw [29] (fun iv wr => ∃ j : Nat, j ≤ 8 ∧ iv = .int .i64 j ∧ Blk P (unc c v) 166 wr ∧ Blk w.heap.size (mbc noMb) 60 wr ∧ Blk q (mbc (fillTo (ownN c) j)) 60 wr ∧ Below w.heap.size w wr) (fun iv _ => 8 - (intOf iv).toNat)
  case atStart => exact ⟨0, by omega, rfl, bP, a0, a1, hB⟩
  case round =>
   clear bP a0 a1 hB
   obtain ⟨j, hj, rfl, bP, a0, a1, hB⟩ := hrel
   by_cases hjn : j < 8
   ·have j0 : (j : Int) < 8 := by omega
    have j1 : (0 : Int) ≤ (j : Int) := by omega
    go_wp2_with (refine load_part rfl 78 _ rfl (o := 0) bP rfl (col c) (unc_core _ _) Tryz.underlying78 rfl sizeCo ?_)
    refine (po _).mono ?_
    rintro r w3 ⟨rfl, hb⟩
    replace a0 := a0.below hb
    replace bP := bP.below hb
    replace a1 := a1.below hb
    replace hB := hB.trans (hb.mono hB.size)
    clear hb 
    go_wp2_with (refine store_one rfl 37 _ _ rfl (off := j) (.int .u32 (ownN c : Int)) a1 rfl rfl rfl rfl sizeU32 (by rw [mbc_size]; omega) ?_; intro w5 b5 k5; rw [fill_set _ j hjn] at b5; replace a0 := a0.kp1 k5 (by omega); replace bP := bP.kp1 k5 (by omega); replace hB : Below w.heap.size w w5 := hB.trans (k5.below1 (by omega) hB.size))
    exact ⟨⟨j + 1, by omega, by go_num, bP, a0, b5, hB⟩, by simp [intOf]; omega⟩
   ·obtain rfl : j = 8 := by omega
    rw [fill_full] at a1
    go_wp2_with (first | refine load_blk rfl 60 _ rfl a1 rfl Tryz.underlying60 rfl sizeCt ?_ | (refine store_part rfl 60 _ _ rfl (off := 0) (cells := mbc (fun _ => ownN c)) a0 rfl rfl sizeCt (Nat.le_refl _) (mbc_one _) ?_; intro w9 b9 k9; rw [mb_all] at b9; have hB9 : Below w.heap.size w w9 := hB.trans (k9.below1 (by omega) hB.size)))
    exact bodyPost_ret (w := w9) (v := .tuple #[.agg (mbc (fun _ => ownN c)), .bool true]) (ret_two rfl rfl b9 Tryz.underlying60 rfl sizeCt rfl) rfl ⟨rfl, hB9⟩
end Go.Proofs.YthgfpdidilolgaaGreat
