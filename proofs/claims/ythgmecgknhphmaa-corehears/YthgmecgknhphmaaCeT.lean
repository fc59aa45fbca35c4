/-
  A core one tick later: what the call answers (core.Tick).
  Of a Self from 0 to 7; its numbers are such as a uint32 holds; what it keeps takes no more bytes than a list may.
-/
import Derived.Test.YthgmecgknhphmaaCeC
import Derived.Test.YthgmecgknhphmaaCeE
import Derived.Test.YthgmecgknhphmaaCeF
import Derived.Test.YthgmecgknhphmaaCeN
import Derived.Test.YthgmecgknhphmaaBtA
namespace Go.Proofs.Ythgmecgknhphmaa
set_option maxRecDepth 10000
set_option linter.unusedSimpArgs false
open Go.RowKit Go.Sort
set_option linter.unusedVariables false

set_option maxHeartbeats 8000000 in
theorem ctick_ok (c : Co) (L : List Kt) (f : Nat → En) (s : Nat) (hs : s < 8) (hcs : c.self = (s : Int)) (kb : c.beat.now < 4294967296) (ke : c.epoch < 4294967296) (kc : ∀ i, c.count i < 4294967296) (hn : c.kn = L.length) (hl : L.length * 352 ≤ 140737488351232) (w : World) (lS : Li Kt.vals 0 c.ka L w) :
    Calls Try.prog 11 #[.agg (coc c), .agg (frc f)] w fun e w' => Did (tickS c L f) (tickD c L) w.heap.size e w' ∧ Below w.heap.size w w' := by
  obtain ⟨a0, a1, a2', hB⟩ := three_blk (T0 := 35) (T1 := 41) (T2 := 35) (C0 := coc c) (C1 := (frc f)) (C2 := coc Co.zero) (w := w) rfl
  go_enter Try.func11, Try.ntmps11
  go_upto_region 1 with (refine alloc_zero zeroCo rfl rfl ?_)
  try simp only [Act.put, List.setIfInBounds_toArray, List.set_cons_zero, List.set_cons_succ]
  try simp only [alloc_size]
  generalize ((w.alloc (Obj.cells (coc c) 35)).alloc (Obj.cells (frc f) 41)).alloc (Obj.cells (coc Co.zero) 35) = W at a0 a1 a2' hB ⊢
  have hW2 := a2'.lt
  go_wp2_with (refine load_blk rfl 35 _ rfl a0 rfl Try.underlying35 rfl sizeCo ?_)
  refine (begin_ok c L hn (by omega) _ (lS.below hB)).mono ?_
  rintro r w1 ⟨⟨a, k, rfl, hg⟩, hb⟩
  have hWb := hb.size
  replace a1 := a1.below hb
  replace a2' := a2'.below hb
  replace hB := hB.trans (hb.mono hB.size)
  clear hb a0 lS
  have hg0 := hg
  obtain ⟨q, hq⟩ : ∃ q, Hid (c.kp a L.length k = q) := ⟨_, rfl⟩
  rw [hq.out]
  have hb := below_box w1 (.cells (unc q (.slice none 0 0)) 78)
  have bP := blk_new w1 (unc q (.slice none 0 0)) 78
  have hsz1 : (w1.alloc (.cells (unc q (.slice none 0 0)) 78)).heap.size = w1.heap.size + 1 := alloc_size _ _
  go_upto_region 2 with (first | refine alloc_zero zeroUn rfl rfl ?_ | refine store_new rfl 78 _ _ rfl (cells := unc q (.slice none 0 0)) rfl rfl sizeUn rfl (unc_one _ _ _ _) ?_)
  try simp only [Act.put, List.setIfInBounds_toArray, List.set_cons_zero, List.set_cons_succ]
  generalize w1.alloc (Obj.cells (unc q (.slice none 0 0)) 78) = W1 at bP hb hsz1 ⊢
  replace a1 := a1.below hb
  replace a2' := a2'.below hb
  replace hg := hg.below hb
  replace hB := hB.trans (hb.mono hB.size)
  clear hb 
  have hO : Off a L w1.heap.size := Off.lg hg0 _ (.inr (Nat.le_refl _))
  clear hg0
  have hL : Li Kt.vals (w.heap.size + 1 + 1 + 1) a L W1 := hg.li.mono (by omega)
  clear hg
  obtain ⟨P, hP⟩ : ∃ P, w1.heap.size = P := ⟨_, rfl⟩
  rw [hP] at bP hO hsz1 hWb ⊢
  clear hP
  have eb : Hid (q.beat = c.beat) := by show q.beat = c.beat; rw [← hq.out]; rfl
  have pt := tick_ok q.beat
  have hB0 := hB.size
  have kP0 : Kp [P] W1 W1 := Kp.refl _ _
  go_wp2_with (refine load_part rfl 25 _ rfl (o := 3) bP rfl q.beat.vals (un_beat _ _) Try.underlying25 rfl sizeBt ?_)
  refine (pt _).mono ?_
  rintro r w2 ⟨rfl, hb⟩
  replace kP0 : Kp [P] W1 w2 := kP0.trans (Kp.of_below hb)
  replace a1 := a1.below hb
  replace a2' := a2'.below hb
  replace bP := bP.below hb
  replace hL := hL.below hb
  replace hB := hB.trans (hb.mono hB.size)
  clear hb pt
  go_upto_region 3 with ((refine store_part rfl 25 _ _ rfl (off := 3) (cells := (tickB q.beat).arr) bP rfl rfl sizeBt (show 3 + 17 ≤ 190 by decide) (Bt.arr_one _) ?_; intro w3 b3 k3; rw [unc_put _ _ _ 3 _ (Co.s_beat q (tickB q.beat)) (show 3 + 17 ≤ 189 by decide)] at b3; have kp3 := kP0.trans (k3.mono (fun i hi => by simp at hi; simp [hi]))))
  try simp only [Act.put]
  replace a1 := a1.kp1 k3 (by omega)
  replace a2' := a2'.kp1 k3 (by omega)
  replace hL := hL.off k3 (fun y hy => by simp at hy; subst hy; exact hO)
  replace hB := hB.trans (k3.below1 (by omega) hB.size)
  clear bP k3 kp3 kP0
  have bP : Blk P (unc (q.wBeat (tickB q.beat)) (.slice none 0 0)) 78 w3 := b3
  clear b3
  obtain ⟨d, hd⟩ : ∃ d, Hid (q.wBeat (tickB q.beat) = d) := ⟨_, rfl⟩
  rw [hd.out] at bP
  have d1 : d.self = (s : Int) := by rw [← hd.out, ← hq.out]; exact hcs
  have d2 : d.beat.now < 4294967296 := by
    rw [← hd.out]
    show (if q.beat.now < 4294967295 then q.beat.now + 1 else q.beat.now) < 4294967296
    rw [eb.out]
    split <;> omega
  have d3 : d.epoch < 4294967296 := by rw [← hd.out, ← hq.out]; exact ke
  go_wp2_with fail
  refine (upropose_ok P d (.slice none 0 0) s hs d1 d2 d3 _ bP).mono ?_
  rintro r w4 ⟨rfl, b4, k4⟩
  replace a1 := a1.kp1 k4 (by omega)
  replace a2' := a2'.kp1 k4 (by omega)
  replace hL := hL.off k4 (fun y hy => by simp at hy; subst hy; exact hO)
  replace hB := hB.trans (k4.below1 (by omega) hB.size)
  clear bP k4
  have e4 : proposeC d (reachC d) = (tick0 c).kp a L.length k := by
    rw [← hd.out, ← hq.out]
    exact propose_kp (c.wBeat (tickB c.beat)) _ a L.length k
  rw [e4] at b4
  have hU : Uv 78 (w.heap.size + 1 + 1 + 1) P ⟨tick0 c, L, []⟩ w4 := ⟨a, k, none, 0, b4, hL, Lg.none _ _ _, hO, fun g hg => by simp [blkOf] at hg⟩
  clear b4 hL hO e4 d1 d2 d3 hd hq eb
  go_wp2_with fail
  refine (goOn_ok (w.heap.size + 1 + 1 + 1) P ⟨tick0 c, L, []⟩ (by simp) _ hU).mono ?_
  rintro r w5 ⟨rfl, hV, hb⟩
  have hPw : P ≤ w4.heap.size := Nat.le_of_lt hU.lt
  replace a1 := a1.und hb (by omega)
  replace a2' := a2'.und hb (by omega)
  replace hB := hB.trans (hb.mono (by omega))
  clear hb hU
  obtain ⟨s1, hs1⟩ : ∃ s1, Hid (goOnS ⟨tick0 c, L, []⟩ = s1) := ⟨_, rfl⟩
  have g1 : s1.c.self = (s : Int) := by rw [← hs1.out, goOn_self]; exact (tick0_self c).trans hcs
  have g2 : ∀ i, s1.c.count i < 4294967296 := by rw [← hs1.out]; exact goOn_count _ (by show ∀ i, (tick0 c).count i < _; rw [tick0_count]; exact kc)
  have g3 : s1.L.length ≤ L.length ∧ s1.t.length ≤ 1 := by rw [← hs1.out]; exact goOn_len _
  have eS : tickS c L f = sendS s1 f := by rw [tickS, tick1, hs1.out]
  have eD : tickD c L = sendB s1.c := by rw [tickD, tick1, hs1.out]
  rw [hs1.out] at hV
  have hfin : ∀ e w', Did (sendS s1 f) (sendB s1.c) w.heap.size e w' → Did (tickS c L f) (tickD c L) w.heap.size e w' := fun e w' h => by rw [eS, eD]; exact h
  clear hs1 eS eD
  go_wp2_with (refine load_blk rfl 41 _ rfl a1 rfl Try.underlying41 rfl sizeFr ?_)
  refine (send_ok (w.heap.size + 1 + 1 + 1) P s1 f s hs g1 g2 (by omega) (by omega) (by omega) _ hV).mono ?_
  rintro r w6 ⟨rfl, hU, hb⟩
  have hPv : P ≤ w5.heap.size := Nat.le_of_lt hV.lt
  replace a2' := a2'.und hb (by omega)
  replace hB := hB.trans (hb.mono (by omega))
  clear hb hV a1
  obtain ⟨s2, hs2⟩ : ∃ s2, sendS s1 f = s2 := ⟨_, rfl⟩
  obtain ⟨bb, hbb⟩ : ∃ b, sendB s1.c = b := ⟨_, rfl⟩
  rw [hs2] at hU hfin
  rw [hbb] at hfin ⊢
  clear hs2 hbb g1 g2 g3
  obtain ⟨a2, k2, ta, tk, b2, hL2, hG2, hO2, hO3⟩ := hU
  go_upto_region 6 with fail
  have hT2 : Li Hp.vals (P + 1) ta s2.t w6.drew := (hG2.li).below (Below.refl _ _).drew
  replace hL2 := hL2.below (Below.refl _ _).drew
  replace a2' := a2'.drew
  replace hB := hB.drew
  have hpl := b2.lt
  clear hG2
  refine wp_region_held_drew (S := fun w' => Blk P (unc (s2.c.kp a2 s2.L.length k2) (.slice ta s2.t.length tk)) 78 w') (by kernel_rfl) b2.drew (fun hHeld => ?_)
  refine tkH 0 (v := ?v1) rfl (by kernel_rfl) (fun _ _ _ h => h) (Or.inl ⟨by rfl, ?hy1⟩) hHeld ?rest1
  case hy1 => (intro w hSw; clear hSw; go_simp; try with_reducible rfl)
  try simp only [List.getElem_toArray, List.getElem_cons_succ, List.getElem_cons_zero, Act.put, List.setIfInBounds_toArray, List.set_cons_succ, List.set_cons_zero]
  refine' tkH 1 (v := _) rfl (by kernel_rfl) (fun _ _ _ h => h) (yieldsIf_load_mid (by rfl) _ _ rfl P 0 rfl (col (s2.c.kp a2 s2.L.length k2)) _ ?hS2 Try.underlying35 rfl sizeCo) hHeld ?rest2
  case hS2 => exact fun w h => h.range 0 _ (unc_core _ _)
  try simp only [List.getElem_toArray, List.getElem_cons_succ, List.getElem_cons_zero, Act.put, List.setIfInBounds_toArray, List.set_cons_succ, List.set_cons_zero]
  refine tkH 2 (v := ?v3) rfl (by kernel_rfl) (fun _ _ _ h => h) (Or.inl ⟨by rfl, ?hy3⟩) hHeld ?rest3
  case hy3 => (intro w hSw; clear hSw; go_simp; try with_reducible rfl)
  try simp only [List.getElem_toArray, List.getElem_cons_succ, List.getElem_cons_zero, Act.put, List.setIfInBounds_toArray, List.set_cons_succ, List.set_cons_zero]
  refine tkH 3 (v := ?v4) rfl (by kernel_rfl) (fun _ _ _ h => h) (Or.inl ⟨by rfl, ?hy4⟩) hHeld ?rest4
  case hy4 => (intro w hSw; clear hSw; go_simp; try with_reducible rfl)
  try simp only [List.getElem_toArray, List.getElem_cons_succ, List.getElem_cons_zero, Act.put, List.setIfInBounds_toArray, List.set_cons_succ, List.set_cons_zero]
  refine tkH 4 (v := ?v5) rfl (by kernel_rfl) (fun _ _ _ h => h) (Or.inl ⟨by rfl, ?hy5⟩) hHeld ?rest5
  case hy5 => (intro w hSw; have hc : w.cell? ⟨P, 189, none⟩ = some (.slice ta s2.t.length tk) := hSw.cell 189 _ rfl; clear hSw; go_simp; try with_reducible rfl)
  try simp only [List.getElem_toArray, List.getElem_cons_succ, List.getElem_cons_zero, Act.put, List.setIfInBounds_toArray, List.set_cons_succ, List.set_cons_zero]
  refine wpAnyH_ready (rs := [5]) (by kernel_rfl) (by simp) ?_
  refine AllReadyH.cons rfl (fun K hK => ?_) (AllReadyH.nil)
  rw [if_pos (by rfl)]
  refine wp_store_all 35 _ _ rfl (cells := coc (s2.c.kp a2 s2.L.length k2)) a2' rfl rfl sizeCo rfl (coc_one _) ?_
  intro u1 hn9 hk9
  replace hL2 := hL2.off hk9 (fun y hy => by simp at hy; subst hy; exact Off.li hL2 _ (.inl (by omega)))
  replace hT2 := hT2.off hk9 (fun y hy => by simp at hy; subst hy; exact Off.li hT2 _ (.inl (by omega)))
  replace hB := hB.trans (hk9.below1 (by omega) hB.size)
  refine hK.out _ _ (hHeld.kp1 hk9 (by omega)) (fun hHeld => ?_)
  clear hK K hk9
  try simp only [List.getElem_toArray, List.getElem_cons_succ, List.getElem_cons_zero, Act.put, List.setIfInBounds_toArray, List.set_cons_succ, List.set_cons_zero]
  refine tkH 6 (v := ?v6) rfl (by kernel_rfl) (fun _ _ _ h => h) (Or.inl ⟨by rfl, ?hy6⟩) hHeld ?rest6
  case hy6 => (intro w hSw; clear hSw; go_simp; try with_reducible rfl)
  try simp only [List.getElem_toArray, List.getElem_cons_succ, List.getElem_cons_zero, Act.put, List.setIfInBounds_toArray, List.set_cons_succ, List.set_cons_zero]
  refine tkH 7 (v := ?v7) rfl (by kernel_rfl) (fun _ _ _ h => h) (Or.inl ⟨by rfl, ?hy7⟩) hHeld ?rest7
  case hy7 => (intro w hSw; clear hSw; go_simp; try with_reducible rfl)
  try simp only [List.getElem_toArray, List.getElem_cons_succ, List.getElem_cons_zero, Act.put, List.setIfInBounds_toArray, List.set_cons_succ, List.set_cons_zero]
  refine wpAnyH_done (by kernel_rfl) ?_ _
  go_wp2_with fail
  exact bodyPost_ret (w := _) (v := .tuple #[.agg (coc (s2.c.kp a2 s2.L.length k2)), .bool bb, .slice ta s2.t.length tk]) (ret_ctt rfl rfl hn9 Try.underlying35 rfl sizeCo rfl rfl) rfl ⟨hfin _ _ ⟨a2, k2, ta, tk, rfl, hL2.mono (by omega), hT2.mono (by omega)⟩, hB⟩

end Go.Proofs.Ythgmecgknhphmaa
