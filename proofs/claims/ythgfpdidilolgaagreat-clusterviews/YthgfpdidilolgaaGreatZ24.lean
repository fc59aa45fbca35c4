/-
  Of the texts beneath these laws, in their order: CeI.
  Each theorem says its own conditions.
-/
import Derived.Test.YthgfpdidilolgaaGreatZ18
namespace Go.Proofs.YthgfpdidilolgaaGreat
set_option maxRecDepth 10000
set_option linter.unusedSimpArgs false
open Go.RowKit Go.Sort
set_option linter.unusedVariables false
set_option maxHeartbeats 4000000 in
theorem install_ok (P : Nat) (c : Co) (ta : Option Addr) (tk : Nat) (Hs : List Hp) (hl : (Hs.length + 1) * 408 ≤ 140737488355328) (w : World) (b0 : Blk P (unc c (.slice ta Hs.length tk)) 166 w) (hG0 : Lg Hp.vals 50 57 (P + 1) ta tk Hs w) :
  Calls Tryz.prog 135 #[.pointer (some ⟨P, 0, none⟩)] w fun e w' => e = .returned (.tuple #[]) ∧ Added P ((instC c).kp none 0 0) Hs (viewH c) ta w w' := by
 obtain ⟨iI, zI, hI, hz0, hsz, hby, hzs⟩ := infoHp
 have hP := b0.lt
 obtain ⟨n, hn⟩ : ∃ n, Hs.length = n := ⟨_, rfl⟩
 rw [hn] at b0 hl
 have bP := b0.drew
 have hG := hG0.below (Below.refl _ _).drew
 have kP : Kp (P :: blkOf ta) w w.drew := Kp.drew _ _
 clear b0
 go_enter Tryz.func135, Tryz.ntmps135
 go_upto_region 0 with fail
 refine wp_region_held_drew (S := fun w' => ∃ v, Blk P (unc c v) 166 w') (by kernel_rfl) ⟨_, bP⟩ (fun hHeld => ?_)
 refine tkH 0 (v := ?v21) rfl (by kernel_rfl) (fun _ _ _ h => h) (Or.inl ⟨by rfl, ?hy21⟩) hHeld ?_
 case hy21 => (intro w hSw; clear hSw; go_simp; try with_reducible rfl)
 try simp only [yA, yB, yC, Act.put, yD, yE, yF]
 refine tkH 1 (v := ?v22) rfl (by kernel_rfl) (fun _ _ _ h => h) (Or.inl ⟨by rfl, ?hy22⟩) hHeld ?_
 case hy22 => (intro w hSw; clear hSw; go_simp; try with_reducible rfl)
 try simp only [yA, yB, yC, Act.put, yD, yE, yF]
 refine tkH 2 (v := ?v23) rfl (by kernel_rfl) (fun _ _ _ h => h) (Or.inl ⟨by rfl, ?hy23⟩) hHeld ?_
 case hy23 => (intro w hSw; clear hSw; go_simp; try with_reducible rfl)
 try simp only [yA, yB, yC, Act.put, yD, yE, yF]
 refine tkH 3 (v := ?v24) rfl (by kernel_rfl) (fun _ _ _ h => h) (Or.inl ⟨by rfl, ?hy24⟩) hHeld ?_
 case hy24 => (intro w hSw; clear hSw; go_simp; try with_reducible rfl)
 try simp only [yA, yB, yC, Act.put, yD, yE, yF]
 refine tkH 5 (v := ?v25) rfl (by kernel_rfl) (fun _ _ _ h => h) (Or.inl ⟨by rfl, ?hy25⟩) hHeld ?_
 case hy25 => (intro w hSw; clear hSw; go_simp; try with_reducible rfl)
 try simp only [yA, yB, yC, Act.put, yD, yE, yF]
 refine tkH 6 (v := ?v26) rfl (by kernel_rfl) (fun _ _ _ h => h) (Or.inl ⟨by rfl, ?hy26⟩) hHeld ?_
 case hy26 => (intro w hSw; clear hSw; go_simp; try with_reducible rfl)
 try simp only [yA, yB, yC, Act.put, yD, yE, yF]
 refine tkH 7 (v := ?v27) rfl (by kernel_rfl) (fun _ _ _ h => h) (Or.inl ⟨by rfl, ?hy27⟩) hHeld ?_
 case hy27 => (intro w hSw; clear hSw; go_simp; try with_reducible rfl)
 try simp only [yA, yB, yC, Act.put, yD, yE, yF]
 refine tkH 8 (v := ?v28) rfl (by kernel_rfl) (fun _ _ _ h => h) (Or.inl ⟨by rfl, ?hy28⟩) hHeld ?_
 case hy28 => (intro w hSw; clear hSw; go_simp; try with_reducible rfl)
 try simp only [yA, yB, yC, Act.put, yD, yE, yF]
 refine' tkH 9 (v := _) rfl (by kernel_rfl) (fun _ _ _ h => h) (yieldsIf_load_mid (by rfl) _ _ rfl P 40 rfl c.pr.vals _ ?hS29 Tryz.underlying51 rfl sizeIdn) hHeld ?_
 case hS29 => exact fun w h => (by obtain ⟨_, h⟩ := h; exact h.range 40 _ (un_pr _ _))
 try simp only [yA, yB, yC, Act.put, yD, yE, yF]
 refine tkH 10 (v := ?v30) rfl (by kernel_rfl) (fun _ _ _ h => h) (Or.inl ⟨by rfl, ?hy30⟩) hHeld ?_
 case hy30 => (intro w hSw; clear hSw; go_simp; try with_reducible rfl)
 try simp only [yA, yB, yC, Act.put, yD, yE, yF]
 refine tkH 11 (v := ?v31) rfl (by kernel_rfl) (fun _ _ _ h => h) (Or.inl ⟨by rfl, ?hy31⟩) hHeld ?_
 case hy31 => (intro w hSw; clear hSw; go_simp; try with_reducible rfl)
 try simp only [yA, yB, yC, Act.put, yD, yE, yF]
 refine tkH 12 (v := ?v32) rfl (by kernel_rfl) (fun _ _ _ h => h) (Or.inl ⟨by rfl, ?hy32⟩) hHeld ?_
 case hy32 => (intro w hSw; clear hSw; go_simp; try with_reducible rfl)
 try simp only [yA, yB, yC, Act.put, yD, yE, yF]
 refine tkH 13 (v := ?v33) rfl (by kernel_rfl) (fun _ _ _ h => h) (Or.inl ⟨by rfl, ?hy33⟩) hHeld ?_
 case hy33 => (intro w hSw; clear hSw; go_simp; try with_reducible rfl)
 try simp only [yA, yB, yC, Act.put, yD, yE, yF]
 refine' tkH 14 (v := _) rfl (by kernel_rfl) (fun _ _ _ h => h) (yieldsIf_load_mid (by rfl) _ _ rfl P 43 rfl (row8 c.want) _ ?hS34 Tryz.underlying55 rfl sizeMb) hHeld ?_
 case hS34 => exact fun w h => (by obtain ⟨_, h⟩ := h; exact h.range 43 _ (un_want _ _))
 try simp only [yA, yB, yC, Act.put, yD, yE, yF]
 refine tkH 15 (v := .agg (viewH c).arr) rfl (by kernel_rfl) (fun _ _ _ h => h) (yields_build (by rfl) 57 #[(0, .const (.bool true)), (2, .tmp 11), (3, .tmp 16)] rfl (by kernel_rfl)) hHeld ?_
 try simp only [yA, yB, yC, Act.put, yD, yE, yF]
 refine wpAnyH_ready (rs := [4, 16]) (by kernel_rfl) (by simp) ?_
 refine AllReadyH.cons rfl (fun K hK => ?_) (AllReadyH.cons rfl (fun K hK => ?_) (AllReadyH.nil))
 ·rw [if_pos (by rfl)]
  refine wp_load_cell 109 _ rfl (.slice ta n tk) rfl (bP.cell 189 _ rfl) Tryz.underlying109 rfl ?_
  refine hK.out _ _ hHeld (fun hHeld => ?_)
  clear hK K 
  try simp only [yA, yB, yC, Act.put, yD, yE, yF]
  refine wpAnyH_ready (rs := [16]) (by kernel_rfl) (by simp) ?_
  refine AllReadyH.cons rfl (fun K hK => ?_) (AllReadyH.nil)
  rw [if_pos (by rfl)]
  refine wp_hp _ rfl (viewH c) rfl ?_
  intro g u2 hg1 hb hgl
  replace bP := bP.below hb
  replace hG := hG.below hb
  replace kP := kP.trans (Kp.of_below hb)
  refine hK.out _ _ ⟨_, bP⟩ (fun hHeld => ?_)
  clear hK K hb hgl
  try simp only [yA, yB, yC, Act.put, yD, yE, yF]
  refine wpAnyH_ready (rs := [17]) (by kernel_rfl) (by simp) ?_
  refine AllReadyH.cons rfl (fun K hK => ?_) (AllReadyH.nil)
  rw [if_pos (by rfl)]
  have hx := (li_one hg1).src (P := Tryz.prog) Hp.vals_length Hp.vals_one Tryz.underlying109 1
  refine wp_append_ln Hp.vals_length _ _ rfl Tryz.underlying109 hI hz0 hsz hby hzs hG (Nat.succ_le_of_lt bP.lt) hn rfl (M := [(viewH c)]) (by simp) hx rfl (by simp; omega) (by simp [maxLen]; omega) ?_
  intro ta' tk' u3 hG' hk' hA'
  replace bP := bP.kp hk' (fun hm => by have := hG.in _ hm; omega)
  have kP' := kP.trans (hk'.mono (fun i hi => by simp [hi]))
  refine hK.out _ _ ⟨_, bP⟩ (fun hHeld => ?_)
  clear hK K hG hx hg1
  try simp only [yA, yB, yC, Act.put, yD, yE, yF]
  refine tkH 18 (v := ?v36) rfl (by kernel_rfl) (fun _ _ _ h => h) (Or.inl ⟨by rfl, ?hy36⟩) hHeld ?_
  case hy36 => (intro w hSw; clear hSw; go_simp; try with_reducible rfl)
  try simp only [yA, yB, yC, Act.put, yD, yE, yF]
  refine tkH 19 (v := ?v37) rfl (by kernel_rfl) (fun _ _ _ h => h) (Or.inl ⟨by rfl, ?hy37⟩) hHeld ?_
  case hy37 => (intro w hSw; clear hSw; go_simp; try with_reducible rfl)
  try simp only [yA, yB, yC, Act.put, yD, yE, yF]
  refine wpAnyH_ready (rs := [20]) (by kernel_rfl) (by simp) ?_
  refine AllReadyH.cons rfl (fun K hK => ?_) (AllReadyH.nil)
  rw [if_pos (by rfl)]
  refine wp_store_one 109 _ _ rfl (off := 189) (.slice ta' (n + 1) tk') bP rfl rfl rfl rfl sizeHs (by rw [unc_size]; decide) ?_
  intro u4 hn9 hk9
  rw [unc_told] at hn9
  replace hG' := hG'.kp hk9 (by simp)
  replace kP' := kP'.trans (hk9.mono (fun i hi => by simp at hi; simp [hi]))
  refine hK.out _ _ ⟨_, hn9⟩ (fun hHeld => ?_)
  clear hK K hk9 bP
  try simp only [yA, yB, yC, Act.put, yD, yE, yF]
  refine wpAnyH_done (by kernel_rfl) ?_ _
  clear hHeld
  replace hA' : ∀ A ∈ blkOf ta', A ∈ blkOf ta ∨ w.heap.size ≤ A := fun A hA => (hA' A hA).imp id (fun h => Nat.le_trans kP.size h)
  go_upto_region 1 with fail
  generalize hv : Value.slice ta' (n + 1) tk' = v at hn9
  have bP := hn9.drew
  replace hG' := hG'.below (Below.refl _ _).drew
  replace kP := kP'.trans (Kp.drew _ _)
  clear hn9 kP' hk'
  refine wp_region_held_drew (S := fun w' => ∃ x y, Blk P (unc (Co.mk c.self c.wait c.own c.beat x y c.count c.ka c.kn c.kc c.pr c.want c.cut c.rdy c.peers c.epoch) v) 166 w') (by kernel_rfl) ⟨_, _, bP⟩ (fun hHeld => ?_)
  refine tkH 0 (v := ?v38) rfl (by kernel_rfl) (fun _ _ _ h => h) (Or.inl ⟨by rfl, ?hy38⟩) hHeld ?_
  case hy38 => (intro w hSw; clear hSw; go_simp; try with_reducible rfl)
  try simp only [yA, yB, yC, Act.put, yD, yE, yF]
  refine tkH 1 (v := ?v39) rfl (by kernel_rfl) (fun _ _ _ h => h) (Or.inl ⟨by rfl, ?hy39⟩) hHeld ?_
  case hy39 => (intro w hSw; clear hSw; go_simp; try with_reducible rfl)
  try simp only [yA, yB, yC, Act.put, yD, yE, yF]
  refine tkH 2 (v := ?v40) rfl (by kernel_rfl) (fun _ _ _ h => h) (Or.inl ⟨by rfl, ?hy40⟩) hHeld ?_
  case hy40 => (intro w hSw; clear hSw; go_simp; try with_reducible rfl)
  try simp only [yA, yB, yC, Act.put, yD, yE, yF]
  refine tkH 3 (v := ?v41) rfl (by kernel_rfl) (fun _ _ _ h => h) (Or.inl ⟨by rfl, ?hy41⟩) hHeld ?_
  case hy41 => (intro w hSw; clear hSw; go_simp; try with_reducible rfl)
  try simp only [yA, yB, yC, Act.put, yD, yE, yF]
  refine tkH 4 (v := ?v42) rfl (by kernel_rfl) (fun _ _ _ h => h) (Or.inl ⟨by rfl, ?hy42⟩) hHeld ?_
  case hy42 => (intro w hSw; clear hSw; go_simp; try with_reducible rfl)
  try simp only [yA, yB, yC, Act.put, yD, yE, yF]
  refine tkH 5 (v := ?v43) rfl (by kernel_rfl) (fun _ _ _ h => h) (Or.inl ⟨by rfl, ?hy43⟩) hHeld ?_
  case hy43 => (intro w hSw; clear hSw; go_simp; try with_reducible rfl)
  try simp only [yA, yB, yC, Act.put, yD, yE, yF]
  refine' tkH 6 (v := _) rfl (by kernel_rfl) (fun _ _ _ h => h) (yieldsIf_load_mid (by rfl) _ _ rfl P 40 rfl c.pr.vals _ ?hS44 Tryz.underlying51 rfl sizeIdn) hHeld ?_
  case hS44 => exact fun w h => (by obtain ⟨x, y, h⟩ := h; exact h.range 40 _ (un_pr _ _))
  try simp only [yA, yB, yC, Act.put, yD, yE, yF]
  refine tkH 7 (v := ?v45) rfl (by kernel_rfl) (fun _ _ _ h => h) (Or.inl ⟨by rfl, ?hy45⟩) hHeld ?_
  case hy45 => (intro w hSw; clear hSw; go_simp; try with_reducible rfl)
  try simp only [yA, yB, yC, Act.put, yD, yE, yF]
  refine tkH 8 (v := ?v46) rfl (by kernel_rfl) (fun _ _ _ h => h) (Or.inl ⟨by rfl, ?hy46⟩) hHeld ?_
  case hy46 => (intro w hSw; clear hSw; go_simp; try with_reducible rfl)
  try simp only [yA, yB, yC, Act.put, yD, yE, yF]
  refine tkH 9 (v := ?v47) rfl (by kernel_rfl) (fun _ _ _ h => h) (Or.inl ⟨by rfl, ?hy47⟩) hHeld ?_
  case hy47 => (intro w hSw; clear hSw; go_simp; try with_reducible rfl)
  try simp only [yA, yB, yC, Act.put, yD, yE, yF]
  refine tkH 10 (v := ?v48) rfl (by kernel_rfl) (fun _ _ _ h => h) (Or.inl ⟨by rfl, ?hy48⟩) hHeld ?_
  case hy48 => (intro w hSw; clear hSw; go_simp; try with_reducible rfl)
  try simp only [yA, yB, yC, Act.put, yD, yE, yF]
  refine' tkH 11 (v := _) rfl (by kernel_rfl) (fun _ _ _ h => h) (yieldsIf_load_mid (by rfl) _ _ rfl P 43 rfl (row8 c.want) _ ?hS49 Tryz.underlying55 rfl sizeMb) hHeld ?_
  case hS49 => exact fun w h => (by obtain ⟨x, y, h⟩ := h; exact h.range 43 _ (un_want _ _))
  try simp only [yA, yB, yC, Act.put, yD, yE, yF]
  refine tkH 12 (v := ?v50) rfl (by kernel_rfl) (fun _ _ _ h => h) (Or.inl ⟨by rfl, ?hy50⟩) hHeld ?_
  case hy50 => (intro w hSw; clear hSw; go_simp; try with_reducible rfl)
  try simp only [yA, yB, yC, Act.put, yD, yE, yF]
  refine tkH 13 (v := ?v51) rfl (by kernel_rfl) (fun _ _ _ h => h) (Or.inl ⟨by rfl, ?hy51⟩) hHeld ?_
  case hy51 => (intro w hSw; clear hSw; go_simp; try with_reducible rfl)
  try simp only [yA, yB, yC, Act.put, yD, yE, yF]
  refine tkH 14 (v := ?v52) rfl (by kernel_rfl) (fun _ _ _ h => h) (Or.inl ⟨by rfl, ?hy52⟩) hHeld ?_
  case hy52 => (intro w hSw; clear hSw; go_simp; try with_reducible rfl)
  try simp only [yA, yB, yC, Act.put, yD, yE, yF]
  refine wpAnyH_ready (rs := [15]) (by kernel_rfl) (by simp) ?_
  refine AllReadyH.cons rfl (fun K hK => ?_) (AllReadyH.nil)
  rw [if_pos (by rfl)]
  refine wp_store_part 51 _ _ rfl (off := 20) (cells := c.pr.arr) bP rfl rfl sizeIdn (show 20 + 3 ≤ 190 by decide) c.pr.arr_one ?_
  intro u1 hn9 hk9
  rw [unc_put _ _ _ 20 _ (Co.s_conf c c.pr) (show 20 + 3 ≤ 189 by decide)] at hn9
  replace bP := hn9
  replace kP := kP.trans (hk9.mono (fun i hi => by simp at hi; simp [hi]))
  replace hG' := hG'.kp hk9 (by simp)
  refine hK.out _ _ ⟨_, _, bP⟩ (fun hHeld => ?_)
  clear hK K hk9 hn9
  try simp only [yA, yB, yC, Act.put, yD, yE, yF]
  refine tkH 16 (v := ?v53) rfl (by kernel_rfl) (fun _ _ _ h => h) (Or.inl ⟨by rfl, ?hy53⟩) hHeld ?_
  case hy53 => (intro w hSw; clear hSw; go_simp; try with_reducible rfl)
  try simp only [yA, yB, yC, Act.put, yD, yE, yF]
  refine tkH 17 (v := ?v54) rfl (by kernel_rfl) (fun _ _ _ h => h) (Or.inl ⟨by rfl, ?hy54⟩) hHeld ?_
  case hy54 => (intro w hSw; clear hSw; go_simp; try with_reducible rfl)
  try simp only [yA, yB, yC, Act.put, yD, yE, yF]
  refine tkH 18 (v := ?v55) rfl (by kernel_rfl) (fun _ _ _ h => h) (Or.inl ⟨by rfl, ?hy55⟩) hHeld ?_
  case hy55 => (intro w hSw; clear hSw; go_simp; try with_reducible rfl)
  try simp only [yA, yB, yC, Act.put, yD, yE, yF]
  refine wpAnyH_ready (rs := [19]) (by kernel_rfl) (by simp) ?_
  refine AllReadyH.cons rfl (fun K hK => ?_) (AllReadyH.nil)
  rw [if_pos (by rfl)]
  refine wp_store_part 55 _ _ rfl (off := 23) (cells := (mbc c.want)) bP rfl rfl sizeMb (show 23 + 8 ≤ 190 by decide) (mbc_one _) ?_
  intro u2 hn9 hk9
  rw [unc_put _ _ _ 23 _ (Co.s_mem _ c.want) (show 23 + 8 ≤ 189 by decide)] at hn9
  replace bP := hn9
  replace kP := kP.trans (hk9.mono (fun i hi => by simp at hi; simp [hi]))
  replace hG' := hG'.kp hk9 (by simp)
  refine hK.out _ _ ⟨_, _, bP⟩ (fun hHeld => ?_)
  clear hK K hk9 hn9
  try simp only [yA, yB, yC, Act.put, yD, yE, yF]
  refine wpAnyH_done (by kernel_rfl) ?_ _
  clear hHeld
  go_upto_region 2 with fail
  go_upto_region 3 with (first | (refine build_as rfl 60 #[] rfl (C := mbc noMb) ?_ ?_; kernel_rfl) | (refine store_part rfl 60 _ _ rfl (off := 31) (cells := (mbc noMb)) bP rfl rfl sizeCt (show 31 + 8 ≤ 190 by decide) (mbc_one _) ?_; intro w5 b5 k5; rw [unc_put _ _ _ 31 _ (Co.s_count _ noMb) (show 31 + 8 ≤ 189 by decide)] at b5; have kp5 := kP.trans (k5.mono (fun i hi => by simp at hi; simp [hi]))) | (refine store_part rfl 60 _ _ rfl (off := 51) (cells := (mbc noMb)) b5 rfl rfl sizeCt (show 51 + 8 ≤ 190 by decide) (mbc_one _) ?_; intro w6 b6 k6; rw [unc_put _ _ _ 51 _ (Co.s_cut _ noMb) (show 51 + 8 ≤ 189 by decide)] at b6; have kp6 := kp5.trans (k6.mono (fun i hi => by simp at hi; simp [hi]))))
  try simp only [Act.put]
  go_wp2_with (first | (refine store_one rfl 73 _ _ rfl (off := 39) (.slice none 0 0) b6 rfl rfl rfl rfl sizeSl (by rw [unc_size]; decide) ?_; intro w7 b7 k7; rw [unc_set _ _ _ 39 _ (Co.s_kept _ none 0 0) (by decide)] at b7; have kp7 := kp6.trans (k7.mono (fun i hi => by simp at hi; simp [hi]))) | (refine store_one rfl 4 _ _ rfl (off := 59) (.bool false) b7 rfl rfl rfl rfl sizeBool (by rw [unc_size]; decide) ?_; intro w8 b8 k8; rw [unc_set _ _ _ 59 _ (Co.s_rdy _ false) (by decide)] at b8; have kp8 := kp7.trans (k8.mono (fun i hi => by simp at hi; simp [hi]))))
  go_end0
  subst hv
  exact ⟨rfl, ta', tk', by rw [List.length_append, hn]; exact b8, (((hG'.kp k5 (by simp)).kp k6 (by simp)).kp k7 (by simp)).kp k8 (by simp), kp8, hA'⟩
 ·rw [if_pos (by rfl)]
  refine wp_hp _ rfl (viewH c) rfl ?_
  intro g u5 hg1 hb hgl
  replace bP := bP.below hb
  replace hG := hG.below hb
  replace kP := kP.trans (Kp.of_below hb)
  refine hK.out _ _ ⟨_, bP⟩ (fun hHeld => ?_)
  clear hK K hb hgl
  try simp only [yA, yB, yC, Act.put, yD, yE, yF]
  refine wpAnyH_ready (rs := [4]) (by kernel_rfl) (by simp) ?_
  refine AllReadyH.cons rfl (fun K hK => ?_) (AllReadyH.nil)
  rw [if_pos (by rfl)]
  refine wp_load_cell 109 _ rfl (.slice ta n tk) rfl (bP.cell 189 _ rfl) Tryz.underlying109 rfl ?_
  refine hK.out _ _ hHeld (fun hHeld => ?_)
  clear hK K 
  try simp only [yA, yB, yC, Act.put, yD, yE, yF]
  refine wpAnyH_ready (rs := [17]) (by kernel_rfl) (by simp) ?_
  refine AllReadyH.cons rfl (fun K hK => ?_) (AllReadyH.nil)
  rw [if_pos (by rfl)]
  have hx := (li_one hg1).src (P := Tryz.prog) Hp.vals_length Hp.vals_one Tryz.underlying109 1
  refine wp_append_ln Hp.vals_length _ _ rfl Tryz.underlying109 hI hz0 hsz hby hzs hG (Nat.succ_le_of_lt bP.lt) hn rfl (M := [(viewH c)]) (by simp) hx rfl (by simp; omega) (by simp [maxLen]; omega) ?_
  intro ta' tk' u7 hG' hk' hA'
  replace bP := bP.kp hk' (fun hm => by have := hG.in _ hm; omega)
  have kP' := kP.trans (hk'.mono (fun i hi => by simp [hi]))
  refine hK.out _ _ ⟨_, bP⟩ (fun hHeld => ?_)
  clear hK K hG hx hg1
  try simp only [yA, yB, yC, Act.put, yD, yE, yF]
  refine tkH 18 (v := ?v56) rfl (by kernel_rfl) (fun _ _ _ h => h) (Or.inl ⟨by rfl, ?hy56⟩) hHeld ?_
  case hy56 => (intro w hSw; clear hSw; go_simp; try with_reducible rfl)
  try simp only [yA, yB, yC, Act.put, yD, yE, yF]
  refine tkH 19 (v := ?v57) rfl (by kernel_rfl) (fun _ _ _ h => h) (Or.inl ⟨by rfl, ?hy57⟩) hHeld ?_
  case hy57 => (intro w hSw; clear hSw; go_simp; try with_reducible rfl)
  try simp only [yA, yB, yC, Act.put, yD, yE, yF]
  refine wpAnyH_ready (rs := [20]) (by kernel_rfl) (by simp) ?_
  refine AllReadyH.cons rfl (fun K hK => ?_) (AllReadyH.nil)
  rw [if_pos (by rfl)]
  refine wp_store_one 109 _ _ rfl (off := 189) (.slice ta' (n + 1) tk') bP rfl rfl rfl rfl sizeHs (by rw [unc_size]; decide) ?_
  intro u8 hn9 hk9
  rw [unc_told] at hn9
  replace hG' := hG'.kp hk9 (by simp)
  replace kP' := kP'.trans (hk9.mono (fun i hi => by simp at hi; simp [hi]))
  refine hK.out _ _ ⟨_, hn9⟩ (fun hHeld => ?_)
  clear hK K hk9 bP
  try simp only [yA, yB, yC, Act.put, yD, yE, yF]
  refine wpAnyH_done (by kernel_rfl) ?_ _
  clear hHeld
  replace hA' : ∀ A ∈ blkOf ta', A ∈ blkOf ta ∨ w.heap.size ≤ A := fun A hA => (hA' A hA).imp id (fun h => Nat.le_trans kP.size h)
  go_upto_region 1 with fail
  generalize hv : Value.slice ta' (n + 1) tk' = v at hn9
  have bP := hn9.drew
  replace hG' := hG'.below (Below.refl _ _).drew
  replace kP := kP'.trans (Kp.drew _ _)
  clear hn9 kP' hk'
  refine wp_region_held_drew (S := fun w' => ∃ x y, Blk P (unc (Co.mk c.self c.wait c.own c.beat x y c.count c.ka c.kn c.kc c.pr c.want c.cut c.rdy c.peers c.epoch) v) 166 w') (by kernel_rfl) ⟨_, _, bP⟩ (fun hHeld => ?_)
  refine tkH 0 (v := ?v58) rfl (by kernel_rfl) (fun _ _ _ h => h) (Or.inl ⟨by rfl, ?hy58⟩) hHeld ?_
  case hy58 => (intro w hSw; clear hSw; go_simp; try with_reducible rfl)
  try simp only [yA, yB, yC, Act.put, yD, yE, yF]
  refine tkH 1 (v := ?v59) rfl (by kernel_rfl) (fun _ _ _ h => h) (Or.inl ⟨by rfl, ?hy59⟩) hHeld ?_
  case hy59 => (intro w hSw; clear hSw; go_simp; try with_reducible rfl)
  try simp only [yA, yB, yC, Act.put, yD, yE, yF]
  refine tkH 2 (v := ?v60) rfl (by kernel_rfl) (fun _ _ _ h => h) (Or.inl ⟨by rfl, ?hy60⟩) hHeld ?_
  case hy60 => (intro w hSw; clear hSw; go_simp; try with_reducible rfl)
  try simp only [yA, yB, yC, Act.put, yD, yE, yF]
  refine tkH 3 (v := ?v61) rfl (by kernel_rfl) (fun _ _ _ h => h) (Or.inl ⟨by rfl, ?hy61⟩) hHeld ?_
  case hy61 => (intro w hSw; clear hSw; go_simp; try with_reducible rfl)
  try simp only [yA, yB, yC, Act.put, yD, yE, yF]
  refine tkH 4 (v := ?v62) rfl (by kernel_rfl) (fun _ _ _ h => h) (Or.inl ⟨by rfl, ?hy62⟩) hHeld ?_
  case hy62 => (intro w hSw; clear hSw; go_simp; try with_reducible rfl)
  try simp only [yA, yB, yC, Act.put, yD, yE, yF]
  refine tkH 5 (v := ?v63) rfl (by kernel_rfl) (fun _ _ _ h => h) (Or.inl ⟨by rfl, ?hy63⟩) hHeld ?_
  case hy63 => (intro w hSw; clear hSw; go_simp; try with_reducible rfl)
  try simp only [yA, yB, yC, Act.put, yD, yE, yF]
  refine' tkH 6 (v := _) rfl (by kernel_rfl) (fun _ _ _ h => h) (yieldsIf_load_mid (by rfl) _ _ rfl P 40 rfl c.pr.vals _ ?hS64 Tryz.underlying51 rfl sizeIdn) hHeld ?_
  case hS64 => exact fun w h => (by obtain ⟨x, y, h⟩ := h; exact h.range 40 _ (un_pr _ _))
  try simp only [yA, yB, yC, Act.put, yD, yE, yF]
  refine tkH 7 (v := ?v65) rfl (by kernel_rfl) (fun _ _ _ h => h) (Or.inl ⟨by rfl, ?hy65⟩) hHeld ?_
  case hy65 => (intro w hSw; clear hSw; go_simp; try with_reducible rfl)
  try simp only [yA, yB, yC, Act.put, yD, yE, yF]
  refine tkH 8 (v := ?v66) rfl (by kernel_rfl) (fun _ _ _ h => h) (Or.inl ⟨by rfl, ?hy66⟩) hHeld ?_
  case hy66 => (intro w hSw; clear hSw; go_simp; try with_reducible rfl)
  try simp only [yA, yB, yC, Act.put, yD, yE, yF]
  refine tkH 9 (v := ?v67) rfl (by kernel_rfl) (fun _ _ _ h => h) (Or.inl ⟨by rfl, ?hy67⟩) hHeld ?_
  case hy67 => (intro w hSw; clear hSw; go_simp; try with_reducible rfl)
  try simp only [yA, yB, yC, Act.put, yD, yE, yF]
  refine tkH 10 (v := ?v68) rfl (by kernel_rfl) (fun _ _ _ h => h) (Or.inl ⟨by rfl, ?hy68⟩) hHeld ?_
  case hy68 => (intro w hSw; clear hSw; go_simp; try with_reducible rfl)
  try simp only [yA, yB, yC, Act.put, yD, yE, yF]
  refine' tkH 11 (v := _) rfl (by kernel_rfl) (fun _ _ _ h => h) (yieldsIf_load_mid (by rfl) _ _ rfl P 43 rfl (row8 c.want) _ ?hS69 Tryz.underlying55 rfl sizeMb) hHeld ?_
  case hS69 => exact fun w h => (by obtain ⟨x, y, h⟩ := h; exact h.range 43 _ (un_want _ _))
  try simp only [yA, yB, yC, Act.put, yD, yE, yF]
  refine tkH 12 (v := ?v70) rfl (by kernel_rfl) (fun _ _ _ h => h) (Or.inl ⟨by rfl, ?hy70⟩) hHeld ?_
  case hy70 => (intro w hSw; clear hSw; go_simp; try with_reducible rfl)
  try simp only [yA, yB, yC, Act.put, yD, yE, yF]
  refine tkH 13 (v := ?v71) rfl (by kernel_rfl) (fun _ _ _ h => h) (Or.inl ⟨by rfl, ?hy71⟩) hHeld ?_
  case hy71 => (intro w hSw; clear hSw; go_simp; try with_reducible rfl)
  try simp only [yA, yB, yC, Act.put, yD, yE, yF]
  refine tkH 14 (v := ?v72) rfl (by kernel_rfl) (fun _ _ _ h => h) (Or.inl ⟨by rfl, ?hy72⟩) hHeld ?_
  case hy72 => (intro w hSw; clear hSw; go_simp; try with_reducible rfl)
  try simp only [yA, yB, yC, Act.put, yD, yE, yF]
  refine wpAnyH_ready (rs := [15]) (by kernel_rfl) (by simp) ?_
  refine AllReadyH.cons rfl (fun K hK => ?_) (AllReadyH.nil)
  rw [if_pos (by rfl)]
  refine wp_store_part 51 _ _ rfl (off := 20) (cells := c.pr.arr) bP rfl rfl sizeIdn (show 20 + 3 ≤ 190 by decide) c.pr.arr_one ?_
  intro u1 hn9 hk9
  rw [unc_put _ _ _ 20 _ (Co.s_conf c c.pr) (show 20 + 3 ≤ 189 by decide)] at hn9
  replace bP := hn9
  replace kP := kP.trans (hk9.mono (fun i hi => by simp at hi; simp [hi]))
  replace hG' := hG'.kp hk9 (by simp)
  refine hK.out _ _ ⟨_, _, bP⟩ (fun hHeld => ?_)
  clear hK K hk9 hn9
  try simp only [yA, yB, yC, Act.put, yD, yE, yF]
  refine tkH 16 (v := ?v73) rfl (by kernel_rfl) (fun _ _ _ h => h) (Or.inl ⟨by rfl, ?hy73⟩) hHeld ?_
  case hy73 => (intro w hSw; clear hSw; go_simp; try with_reducible rfl)
  try simp only [yA, yB, yC, Act.put, yD, yE, yF]
  refine tkH 17 (v := ?v74) rfl (by kernel_rfl) (fun _ _ _ h => h) (Or.inl ⟨by rfl, ?hy74⟩) hHeld ?_
  case hy74 => (intro w hSw; clear hSw; go_simp; try with_reducible rfl)
  try simp only [yA, yB, yC, Act.put, yD, yE, yF]
  refine tkH 18 (v := ?v75) rfl (by kernel_rfl) (fun _ _ _ h => h) (Or.inl ⟨by rfl, ?hy75⟩) hHeld ?_
  case hy75 => (intro w hSw; clear hSw; go_simp; try with_reducible rfl)
  try simp only [yA, yB, yC, Act.put, yD, yE, yF]
  refine wpAnyH_ready (rs := [19]) (by kernel_rfl) (by simp) ?_
  refine AllReadyH.cons rfl (fun K hK => ?_) (AllReadyH.nil)
  rw [if_pos (by rfl)]
  refine wp_store_part 55 _ _ rfl (off := 23) (cells := (mbc c.want)) bP rfl rfl sizeMb (show 23 + 8 ≤ 190 by decide) (mbc_one _) ?_
  intro u2 hn9 hk9
  rw [unc_put _ _ _ 23 _ (Co.s_mem _ c.want) (show 23 + 8 ≤ 189 by decide)] at hn9
  replace bP := hn9
  replace kP := kP.trans (hk9.mono (fun i hi => by simp at hi; simp [hi]))
  replace hG' := hG'.kp hk9 (by simp)
  refine hK.out _ _ ⟨_, _, bP⟩ (fun hHeld => ?_)
  clear hK K hk9 hn9
  try simp only [yA, yB, yC, Act.put, yD, yE, yF]
  refine wpAnyH_done (by kernel_rfl) ?_ _
  clear hHeld
  go_upto_region 2 with fail
  go_upto_region 3 with (first | (refine build_as rfl 60 #[] rfl (C := mbc noMb) ?_ ?_; kernel_rfl) | (refine store_part rfl 60 _ _ rfl (off := 31) (cells := (mbc noMb)) bP rfl rfl sizeCt (show 31 + 8 ≤ 190 by decide) (mbc_one _) ?_; intro w5 b5 k5; rw [unc_put _ _ _ 31 _ (Co.s_count _ noMb) (show 31 + 8 ≤ 189 by decide)] at b5; have kp5 := kP.trans (k5.mono (fun i hi => by simp at hi; simp [hi]))) | (refine store_part rfl 60 _ _ rfl (off := 51) (cells := (mbc noMb)) b5 rfl rfl sizeCt (show 51 + 8 ≤ 190 by decide) (mbc_one _) ?_; intro w6 b6 k6; rw [unc_put _ _ _ 51 _ (Co.s_cut _ noMb) (show 51 + 8 ≤ 189 by decide)] at b6; have kp6 := kp5.trans (k6.mono (fun i hi => by simp at hi; simp [hi]))))
  try simp only [Act.put]
  go_wp2_with (first | (refine store_one rfl 73 _ _ rfl (off := 39) (.slice none 0 0) b6 rfl rfl rfl rfl sizeSl (by rw [unc_size]; decide) ?_; intro w7 b7 k7; rw [unc_set _ _ _ 39 _ (Co.s_kept _ none 0 0) (by decide)] at b7; have kp7 := kp6.trans (k7.mono (fun i hi => by simp at hi; simp [hi]))) | (refine store_one rfl 4 _ _ rfl (off := 59) (.bool false) b7 rfl rfl rfl rfl sizeBool (by rw [unc_size]; decide) ?_; intro w8 b8 k8; rw [unc_set _ _ _ 59 _ (Co.s_rdy _ false) (by decide)] at b8; have kp8 := kp7.trans (k8.mono (fun i hi => by simp at hi; simp [hi]))))
  go_end0
  subst hv
  exact ⟨rfl, ta', tk', by rw [List.length_append, hn]; exact b8, (((hG'.kp k5 (by simp)).kp k6 (by simp)).kp k7 (by simp)).kp k8 (by simp), kp8, hA'⟩
end Go.Proofs.YthgfpdidilolgaaGreat
