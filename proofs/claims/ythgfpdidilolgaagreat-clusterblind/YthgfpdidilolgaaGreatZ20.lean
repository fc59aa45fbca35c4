/-
  Of the texts beneath these laws, in their order: CeI, CeE.
  Each theorem says its own conditions.
-/
import Derived.Test.YthgfpdidilolgaaGreatZ16
import Derived.Test.YthgfpdidilolgaaGreatZ04
import Derived.Test.YthgfpdidilolgaaGreatZ19
import Derived.Test.YthgfpdidilolgaaGreatZ00
namespace Go.Proofs.YthgfpdidilolgaaGreat
set_option maxRecDepth 10000
set_option linter.unusedSimpArgs false
open Go.RowKit Go.Sort
set_option linter.unusedVariables false
set_option maxHeartbeats 4000000 in
theorem install_ok (P : Nat) (c : Co) (ta : Option Addr) (tk : Nat) (Hs : List Hp) (hl : (Hs.length + 1) * 408 ≤ 140737488355328) (w : World) (b0 : Blk P (unc c (.slice ta Hs.length tk)) 166 w) (hG0 : Lg Hp.vals 50 57 (P + 1) ta tk Hs w) :
  Calls Tryz.prog 135 #[.pointer (some ⟨P, 0, none⟩)] w fun e w' => e = .returned (.tuple #[]) ∧ Added P ((instC c).kp none 0 0) Hs (viewH c) ta w w' := by
 obtain ⟨iI, zI, hI, hz0, hsz, hby, hzs⟩ := infoHp
 have hP := b0.lt
 obtain ⟨n, hn⟩ : ∃ n, Hs.length = n := ⟨_, rfl⟩
 rw [hn] at b0 hl
 have bP := b0.drew
 have hG := hG0.below (Below.refl _ _).drew
 have kP : Kp (P :: blkOf ta) w w.drew := Kp.drew _ _
 clear b0
 go_enter Tryz.func135, Tryz.ntmps135
 go_upto_region 0 with fail
 refine wp_region_held_drew (S := fun w' => ∃ v, Blk P (unc c v) 166 w') (by kernel_rfl) ⟨_, bP⟩ (fun hHeld => ?_)
 refine tkQ 0 hHeld ?_
 try simp only [yy]
 refine tkQ 1 hHeld ?_
 try simp only [yy]
 refine tkQ 2 hHeld ?_
 try simp only [yy]
 refine tkQ 3 hHeld ?_
 try simp only [yy]
 refine tkQ 5 hHeld ?_
 try simp only [yy]
 refine tkQ 6 hHeld ?_
 try simp only [yy]
 refine tkQ 7 hHeld ?_
 try simp only [yy]
 refine tkQ 8 hHeld ?_
 try simp only [yy]
 refine' tkH 9 (v := _) rfl (by kernel_rfl) (fun _ _ _ h => h) (yieldsIf_load_mid (by rfl) _ _ rfl P 40 rfl c.pr.vals _ ?hS29 Tryz.underlying51 rfl sizeIdn) hHeld ?_
 case hS29 => exact fun w h => (by obtain ⟨_, h⟩ := h; exact h.range 40 _ (un_pr _ _))
 try simp only [yy]
 refine tkQ 10 hHeld ?_
 try simp only [yy]
 refine tkQ 11 hHeld ?_
 try simp only [yy]
 refine tkQ 12 hHeld ?_
 try simp only [yy]
 refine tkQ 13 hHeld ?_
 try simp only [yy]
 refine' tkH 14 (v := _) rfl (by kernel_rfl) (fun _ _ _ h => h) (yieldsIf_load_mid (by rfl) _ _ rfl P 43 rfl (row8 c.want) _ ?hS34 Tryz.underlying55 rfl sizeMb) hHeld ?_
 case hS34 => exact fun w h => (by obtain ⟨_, h⟩ := h; exact h.range 43 _ (un_want _ _))
 try simp only [yy]
 refine tkH 15 (v := .agg (viewH c).arr) rfl (by kernel_rfl) (fun _ _ _ h => h) (yields_build (by rfl) 57 #[(0, .const (.bool true)), (2, .tmp 11), (3, .tmp 16)] rfl (by kernel_rfl)) hHeld ?_
 try simp only [yy]
 refine wpAnyH_ready (rs := [4, 16]) (by kernel_rfl) (by simp) ?_
 refine AllReadyH.cons rfl (fun K hK => ?_) (AllReadyH.cons rfl (fun K hK => ?_) (AllReadyH.nil))
 ·rw [if_pos (by rfl)]
  refine wp_load_cell 109 _ rfl (.slice ta n tk) rfl (bP.cell 189 _ rfl) Tryz.underlying109 rfl ?_
  refine hK.out _ _ hHeld (fun hHeld => ?_)
  clear hK K 
  try simp only [yy]
  refine rd1 16 (fun K hK => ?_)
  rw [if_pos (by rfl)]
  refine wp_hp _ rfl (viewH c) rfl ?_
  intro g u2 hg1 hb hgl
  replace bP := bP.below hb
  replace hG := hG.below hb
  replace kP := kP.trans (Kp.of_below hb)
  refine hK.out _ _ ⟨_, bP⟩ (fun hHeld => ?_)
  clear hK K hb hgl
  try simp only [yy]
  refine rd1 17 (fun K hK => ?_)
  rw [if_pos (by rfl)]
  have hx := (li_one hg1).src (P := Tryz.prog) Hp.vals_length Hp.vals_one Tryz.underlying109 1
  refine wp_append_ln Hp.vals_length _ _ rfl Tryz.underlying109 hI hz0 hsz hby hzs hG (Nat.succ_le_of_lt bP.lt) hn rfl (M := [(viewH c)]) (by simp) hx rfl (by simp; omega) (by simp [maxLen]; omega) ?_
  intro ta' tk' u3 hG' hk' hA'
  replace bP := bP.kp hk' (fun hm => by have := hG.in _ hm; omega)
  have kP' := kP.trans (hk'.mono (fun i hi => by simp [hi]))
  refine hK.out _ _ ⟨_, bP⟩ (fun hHeld => ?_)
  clear hK K hG hx hg1
  try simp only [yy]
  refine tkQ 18 hHeld ?_
  try simp only [yy]
  refine tkQ 19 hHeld ?_
  try simp only [yy]
  refine rd1 20 (fun K hK => ?_)
  rw [if_pos (by rfl)]
  refine wp_store_one 109 _ _ rfl (off := 189) (.slice ta' (n + 1) tk') bP rfl rfl rfl rfl sizeHs (by rw [unc_size]; decide) ?_
  intro u4 hn9 hk9
  rw [unc_told] at hn9
  replace hG' := hG'.kp hk9 (by simp)
  replace kP' := kP'.trans (hk9.mono (fun i hi => by simp at hi; simp [hi]))
  refine hK.out _ _ ⟨_, hn9⟩ (fun hHeld => ?_)
  clear hK K hk9 bP
  try simp only [yy]
  refine wpAnyH_done (by kernel_rfl) ?_ _
  clear hHeld
  replace hA' : ∀ A ∈ blkOf ta', A ∈ blkOf ta ∨ w.heap.size ≤ A := fun A hA => (hA' A hA).imp id (fun h => Nat.le_trans kP.size h)
  go_upto_region 1 with fail
  generalize hv : Value.slice ta' (n + 1) tk' = v at hn9
  have bP := hn9.drew
  replace hG' := hG'.below (Below.refl _ _).drew
  replace kP := kP'.trans (Kp.drew _ _)
  clear hn9 kP' hk'
  refine wp_region_held_drew (S := fun w' => ∃ x y, Blk P (unc (Co.mk c.self c.wait c.own c.beat x y c.count c.ka c.kn c.kc c.pr c.want c.cut c.rdy c.peers c.epoch) v) 166 w') (by kernel_rfl) ⟨_, _, bP⟩ (fun hHeld => ?_)
  refine tkQ 0 hHeld ?_
  try simp only [yy]
  refine tkQ 1 hHeld ?_
  try simp only [yy]
  refine tkQ 2 hHeld ?_
  try simp only [yy]
  refine tkQ 3 hHeld ?_
  try simp only [yy]
  refine tkQ 4 hHeld ?_
  try simp only [yy]
  refine tkQ 5 hHeld ?_
  try simp only [yy]
  refine' tkH 6 (v := _) rfl (by kernel_rfl) (fun _ _ _ h => h) (yieldsIf_load_mid (by rfl) _ _ rfl P 40 rfl c.pr.vals _ ?hS44 Tryz.underlying51 rfl sizeIdn) hHeld ?_
  case hS44 => exact fun w h => (by obtain ⟨x, y, h⟩ := h; exact h.range 40 _ (un_pr _ _))
  try simp only [yy]
  refine tkQ 7 hHeld ?_
  try simp only [yy]
  refine tkQ 8 hHeld ?_
  try simp only [yy]
  refine tkQ 9 hHeld ?_
  try simp only [yy]
  refine tkQ 10 hHeld ?_
  try simp only [yy]
  refine' tkH 11 (v := _) rfl (by kernel_rfl) (fun _ _ _ h => h) (yieldsIf_load_mid (by rfl) _ _ rfl P 43 rfl (row8 c.want) _ ?hS49 Tryz.underlying55 rfl sizeMb) hHeld ?_
  case hS49 => exact fun w h => (by obtain ⟨x, y, h⟩ := h; exact h.range 43 _ (un_want _ _))
  try simp only [yy]
  refine tkQ 12 hHeld ?_
  try simp only [yy]
  refine tkQ 13 hHeld ?_
  try simp only [yy]
  refine tkQ 14 hHeld ?_
  try simp only [yy]
  refine rd1 15 (fun K hK => ?_)
  rw [if_pos (by rfl)]
  refine wp_store_part 51 _ _ rfl (off := 20) (cells := c.pr.arr) bP rfl rfl sizeIdn (show 20 + 3 ≤ 190 by decide) c.pr.arr_one ?_
  intro u1 hn9 hk9
  rw [unc_put _ _ _ 20 _ (Co.s_conf c c.pr) (show 20 + 3 ≤ 189 by decide)] at hn9
  replace bP := hn9
  replace kP := kP.trans (hk9.mono (fun i hi => by simp at hi; simp [hi]))
  replace hG' := hG'.kp hk9 (by simp)
  refine hK.out _ _ ⟨_, _, bP⟩ (fun hHeld => ?_)
  clear hK K hk9 hn9
  try simp only [yy]
  refine tkQ 16 hHeld ?_
  try simp only [yy]
  refine tkQ 17 hHeld ?_
  try simp only [yy]
  refine tkQ 18 hHeld ?_
  try simp only [yy]
  refine rd1 19 (fun K hK => ?_)
  rw [if_pos (by rfl)]
  refine wp_store_part 55 _ _ rfl (off := 23) (cells := (mbc c.want)) bP rfl rfl sizeMb (show 23 + 8 ≤ 190 by decide) (mbc_one _) ?_
  intro u2 hn9 hk9
  rw [unc_put _ _ _ 23 _ (Co.s_mem _ c.want) (show 23 + 8 ≤ 189 by decide)] at hn9
  replace bP := hn9
  replace kP := kP.trans (hk9.mono (fun i hi => by simp at hi; simp [hi]))
  replace hG' := hG'.kp hk9 (by simp)
  refine hK.out _ _ ⟨_, _, bP⟩ (fun hHeld => ?_)
  clear hK K hk9 hn9
  try simp only [yy]
  refine wpAnyH_done (by kernel_rfl) ?_ _
  clear hHeld
  go_upto_region 2 with fail
  go_upto_region 3 with (first | (refine build_as rfl 60 #[] rfl (C := mbc noMb) ?_ ?_; kernel_rfl) | (refine store_part rfl 60 _ _ rfl (off := 31) (cells := (mbc noMb)) bP rfl rfl sizeCt (show 31 + 8 ≤ 190 by decide) (mbc_one _) ?_; intro w5 b5 k5; rw [unc_put _ _ _ 31 _ (Co.s_count _ noMb) (show 31 + 8 ≤ 189 by decide)] at b5; have kp5 := kP.trans (k5.mono (fun i hi => by simp at hi; simp [hi]))) | (refine store_part rfl 60 _ _ rfl (off := 51) (cells := (mbc noMb)) b5 rfl rfl sizeCt (show 51 + 8 ≤ 190 by decide) (mbc_one _) ?_; intro w6 b6 k6; rw [unc_put _ _ _ 51 _ (Co.s_cut _ noMb) (show 51 + 8 ≤ 189 by decide)] at b6; have kp6 := kp5.trans (k6.mono (fun i hi => by simp at hi; simp [hi]))))
  try simp only [Act.put]
  go_wp2_with (first | (refine store_one rfl 73 _ _ rfl (off := 39) (.slice none 0 0) b6 rfl rfl rfl rfl sizeSl (by rw [unc_size]; decide) ?_; intro w7 b7 k7; rw [unc_set _ _ _ 39 _ (Co.s_kept _ none 0 0) (by decide)] at b7; have kp7 := kp6.trans (k7.mono (fun i hi => by simp at hi; simp [hi]))) | (refine store_one rfl 4 _ _ rfl (off := 59) (.bool false) b7 rfl rfl rfl rfl sizeBool (by rw [unc_size]; decide) ?_; intro w8 b8 k8; rw [unc_set _ _ _ 59 _ (Co.s_rdy _ false) (by decide)] at b8; have kp8 := kp7.trans (k8.mono (fun i hi => by simp at hi; simp [hi]))))
  go_end0
  subst hv
  exact ⟨rfl, ta', tk', by rw [List.length_append, hn]; exact b8, (((hG'.kp k5 (by simp)).kp k6 (by simp)).kp k7 (by simp)).kp k8 (by simp), kp8, hA'⟩
 ·rw [if_pos (by rfl)]
  refine wp_hp _ rfl (viewH c) rfl ?_
  intro g u5 hg1 hb hgl
  replace bP := bP.below hb
  replace hG := hG.below hb
  replace kP := kP.trans (Kp.of_below hb)
  refine hK.out _ _ ⟨_, bP⟩ (fun hHeld => ?_)
  clear hK K hb hgl
  try simp only [yy]
  refine rd1 4 (fun K hK => ?_)
  rw [if_pos (by rfl)]
  refine wp_load_cell 109 _ rfl (.slice ta n tk) rfl (bP.cell 189 _ rfl) Tryz.underlying109 rfl ?_
  refine hK.out _ _ hHeld (fun hHeld => ?_)
  clear hK K 
  try simp only [yy]
  refine rd1 17 (fun K hK => ?_)
  rw [if_pos (by rfl)]
  have hx := (li_one hg1).src (P := Tryz.prog) Hp.vals_length Hp.vals_one Tryz.underlying109 1
  refine wp_append_ln Hp.vals_length _ _ rfl Tryz.underlying109 hI hz0 hsz hby hzs hG (Nat.succ_le_of_lt bP.lt) hn rfl (M := [(viewH c)]) (by simp) hx rfl (by simp; omega) (by simp [maxLen]; omega) ?_
  intro ta' tk' u7 hG' hk' hA'
  replace bP := bP.kp hk' (fun hm => by have := hG.in _ hm; omega)
  have kP' := kP.trans (hk'.mono (fun i hi => by simp [hi]))
  refine hK.out _ _ ⟨_, bP⟩ (fun hHeld => ?_)
  clear hK K hG hx hg1
  try simp only [yy]
  refine tkQ 18 hHeld ?_
  try simp only [yy]
  refine tkQ 19 hHeld ?_
  try simp only [yy]
  refine rd1 20 (fun K hK => ?_)
  rw [if_pos (by rfl)]
  refine wp_store_one 109 _ _ rfl (off := 189) (.slice ta' (n + 1) tk') bP rfl rfl rfl rfl sizeHs (by rw [unc_size]; decide) ?_
  intro u8 hn9 hk9
  rw [unc_told] at hn9
  replace hG' := hG'.kp hk9 (by simp)
  replace kP' := kP'.trans (hk9.mono (fun i hi => by simp at hi; simp [hi]))
  refine hK.out _ _ ⟨_, hn9⟩ (fun hHeld => ?_)
  clear hK K hk9 bP
  try simp only [yy]
  refine wpAnyH_done (by kernel_rfl) ?_ _
  clear hHeld
  replace hA' : ∀ A ∈ blkOf ta', A ∈ blkOf ta ∨ w.heap.size ≤ A := fun A hA => (hA' A hA).imp id (fun h => Nat.le_trans kP.size h)
  go_upto_region 1 with fail
  generalize hv : Value.slice ta' (n + 1) tk' = v at hn9
  have bP := hn9.drew
  replace hG' := hG'.below (Below.refl _ _).drew
  replace kP := kP'.trans (Kp.drew _ _)
  clear hn9 kP' hk'
  refine wp_region_held_drew (S := fun w' => ∃ x y, Blk P (unc (Co.mk c.self c.wait c.own c.beat x y c.count c.ka c.kn c.kc c.pr c.want c.cut c.rdy c.peers c.epoch) v) 166 w') (by kernel_rfl) ⟨_, _, bP⟩ (fun hHeld => ?_)
  refine tkQ 0 hHeld ?_
  try simp only [yy]
  refine tkQ 1 hHeld ?_
  try simp only [yy]
  refine tkQ 2 hHeld ?_
  try simp only [yy]
  refine tkQ 3 hHeld ?_
  try simp only [yy]
  refine tkQ 4 hHeld ?_
  try simp only [yy]
  refine tkQ 5 hHeld ?_
  try simp only [yy]
  refine' tkH 6 (v := _) rfl (by kernel_rfl) (fun _ _ _ h => h) (yieldsIf_load_mid (by rfl) _ _ rfl P 40 rfl c.pr.vals _ ?hS64 Tryz.underlying51 rfl sizeIdn) hHeld ?_
  case hS64 => exact fun w h => (by obtain ⟨x, y, h⟩ := h; exact h.range 40 _ (un_pr _ _))
  try simp only [yy]
  refine tkQ 7 hHeld ?_
  try simp only [yy]
  refine tkQ 8 hHeld ?_
  try simp only [yy]
  refine tkQ 9 hHeld ?_
  try simp only [yy]
  refine tkQ 10 hHeld ?_
  try simp only [yy]
  refine' tkH 11 (v := _) rfl (by kernel_rfl) (fun _ _ _ h => h) (yieldsIf_load_mid (by rfl) _ _ rfl P 43 rfl (row8 c.want) _ ?hS69 Tryz.underlying55 rfl sizeMb) hHeld ?_
  case hS69 => exact fun w h => (by obtain ⟨x, y, h⟩ := h; exact h.range 43 _ (un_want _ _))
  try simp only [yy]
  refine tkQ 12 hHeld ?_
  try simp only [yy]
  refine tkQ 13 hHeld ?_
  try simp only [yy]
  refine tkQ 14 hHeld ?_
  try simp only [yy]
  refine rd1 15 (fun K hK => ?_)
  rw [if_pos (by rfl)]
  refine wp_store_part 51 _ _ rfl (off := 20) (cells := c.pr.arr) bP rfl rfl sizeIdn (show 20 + 3 ≤ 190 by decide) c.pr.arr_one ?_
  intro u1 hn9 hk9
  rw [unc_put _ _ _ 20 _ (Co.s_conf c c.pr) (show 20 + 3 ≤ 189 by decide)] at hn9
  replace bP := hn9
  replace kP := kP.trans (hk9.mono (fun i hi => by simp at hi; simp [hi]))
  replace hG' := hG'.kp hk9 (by simp)
  refine hK.out _ _ ⟨_, _, bP⟩ (fun hHeld => ?_)
  clear hK K hk9 hn9
  try simp only [yy]
  refine tkQ 16 hHeld ?_
  try simp only [yy]
  refine tkQ 17 hHeld ?_
  try simp only [yy]
  refine tkQ 18 hHeld ?_
  try simp only [yy]
  refine rd1 19 (fun K hK => ?_)
  rw [if_pos (by rfl)]
  refine wp_store_part 55 _ _ rfl (off := 23) (cells := (mbc c.want)) bP rfl rfl sizeMb (show 23 + 8 ≤ 190 by decide) (mbc_one _) ?_
  intro u2 hn9 hk9
  rw [unc_put _ _ _ 23 _ (Co.s_mem _ c.want) (show 23 + 8 ≤ 189 by decide)] at hn9
  replace bP := hn9
  replace kP := kP.trans (hk9.mono (fun i hi => by simp at hi; simp [hi]))
  replace hG' := hG'.kp hk9 (by simp)
  refine hK.out _ _ ⟨_, _, bP⟩ (fun hHeld => ?_)
  clear hK K hk9 hn9
  try simp only [yy]
  refine wpAnyH_done (by kernel_rfl) ?_ _
  clear hHeld
  go_upto_region 2 with fail
  go_upto_region 3 with (first | (refine build_as rfl 60 #[] rfl (C := mbc noMb) ?_ ?_; kernel_rfl) | (refine store_part rfl 60 _ _ rfl (off := 31) (cells := (mbc noMb)) bP rfl rfl sizeCt (show 31 + 8 ≤ 190 by decide) (mbc_one _) ?_; intro w5 b5 k5; rw [unc_put _ _ _ 31 _ (Co.s_count _ noMb) (show 31 + 8 ≤ 189 by decide)] at b5; have kp5 := kP.trans (k5.mono (fun i hi => by simp at hi; simp [hi]))) | (refine store_part rfl 60 _ _ rfl (off := 51) (cells := (mbc noMb)) b5 rfl rfl sizeCt (show 51 + 8 ≤ 190 by decide) (mbc_one _) ?_; intro w6 b6 k6; rw [unc_put _ _ _ 51 _ (Co.s_cut _ noMb) (show 51 + 8 ≤ 189 by decide)] at b6; have kp6 := kp5.trans (k6.mono (fun i hi => by simp at hi; simp [hi]))))
  try simp only [Act.put]
  go_wp2_with (first | (refine store_one rfl 73 _ _ rfl (off := 39) (.slice none 0 0) b6 rfl rfl rfl rfl sizeSl (by rw [unc_size]; decide) ?_; intro w7 b7 k7; rw [unc_set _ _ _ 39 _ (Co.s_kept _ none 0 0) (by decide)] at b7; have kp7 := kp6.trans (k7.mono (fun i hi => by simp at hi; simp [hi]))) | (refine store_one rfl 4 _ _ rfl (off := 59) (.bool false) b7 rfl rfl rfl rfl sizeBool (by rw [unc_size]; decide) ?_; intro w8 b8 k8; rw [unc_set _ _ _ 59 _ (Co.s_rdy _ false) (by decide)] at b8; have kp8 := kp7.trans (k8.mono (fun i hi => by simp at hi; simp [hi]))))
  go_end0
  subst hv
  exact ⟨rfl, ta', tk', by rw [List.length_append, hn]; exact b8, (((hG'.kp k5 (by simp)).kp k6 (by simp)).kp k7 (by simp)).kp k8 (by simp), kp8, hA'⟩
end Go.Proofs.YthgfpdidilolgaaGreat
namespace Go.Proofs.YthgfpdidilolgaaGreat
set_option maxRecDepth 10000
set_option linter.unusedSimpArgs false
open Go.RowKit Go.Sort
set_option linter.unusedVariables false
set_option maxHeartbeats 8000000 in
theorem goOn_ok (B P : Nat) (s : Sg) (ht : (s.t.length + 1) * 408 ≤ 140737488355328) (w : World) (hU : Uv 166 B P s w) :
  Calls Tryz.prog 102 #[.pointer (some ⟨P, 0, none⟩)] w fun e w' => e = .returned (.tuple #[]) ∧ Uv 166 B P (goOnS s) w' ∧ Below P w w' := by
 obtain ⟨c0, L, Hs⟩ := s
 obtain ⟨c, ta, tk, hn, hsim, b0, hL, hG, hO, hO2⟩ := hU.open
 clear hU
 have hn : c.kn = L.length := hn
 have b0 : Blk P (unc c (.slice ta Hs.length tk)) 166 w := b0
 have hL : Li Kt.vals B c.ka L w := hL
 have hG : Lg Hp.vals 50 57 (P + 1) ta tk Hs w := hG
 have hO : Off c.ka L P := hO
 have hO2 : ∀ g ∈ blkOf ta, Off c.ka L g := hO2
 have ht : (Hs.length + 1) * 408 ≤ 140737488355328 := ht
 have hP := b0.lt
 have hin := hG.in
 have HS : Hid (Sg.sim (goOnS ⟨c, L, Hs⟩) (goOnS ⟨c0, L, Hs⟩)) := goOn_sim hsim L Hs
 have hka : (readyC c).ka = c.ka ∧ (readyC c).kn = c.kn ∧ (readyC c).kc = c.kc := by unfold readyC; split <;> exact ⟨rfl, rfl, rfl⟩
 have LG : ∀ {u : World}, Kp [P] w u → Lg Hp.vals 50 57 (P + 1) ta tk Hs u := fun k => hG.kp k (by simp)
 have fin_no : ∀ u, Blk P (unc (readyC c) (.slice ta Hs.length tk)) 166 u → Kp [P] w u → insB (readyC c) = false → Uv 166 B P (goOnS ⟨c0, L, Hs⟩) u ∧ Below P w u := by
  intro u b k hi
  refine ⟨Uv.sim ?_ HS.out, k.below1 (Nat.le_refl _) (by omega)⟩
  have e : goOnS ⟨c, L, Hs⟩ = ⟨readyC c, L, Hs⟩ := by rw [goOnS, hi]; rfl
  rw [e]
  refine ⟨c.ka, c.kc, ta, tk, ?_, hL.off k (fun x hx => by simp at hx; subst hx; exact hO), LG k, hO, hO2⟩
  have e2 : (readyC c).kp c.ka L.length c.kc = readyC c := by rw [← hka.1, ← hka.2.2]; exact kp_self _ _ (hka.2.1.trans hn)
  show Blk P (unc ((readyC c).kp c.ka L.length c.kc) _) _ u
  rw [e2]
  exact b
 have fin_yes : ∀ u u', Added P ((instC (readyC c)).kp none 0 0) Hs (viewH (readyC c)) ta u u' → Kp [P] w u → insB (readyC c) = true → Uv 166 B P (goOnS ⟨c0, L, Hs⟩) u' ∧ Below P w u' := by
  rintro u u' ⟨ta', tk', h1, h2, h3, h4⟩ k hi
  have hk : Kp (P :: blkOf ta) w u' := (k.mono (fun i hi => by simp at hi; simp [hi])).trans h3
  refine ⟨Uv.sim ?_ HS.out, hk.below (fun i hi => by rcases List.mem_cons.1 hi with rfl | hi; exact Nat.le_refl _; have := hin i hi; omega) (by omega)⟩
  have e : goOnS ⟨c, L, Hs⟩ = ⟨instC (readyC c), [], Hs ++ [viewH (readyC c)]⟩ := by rw [goOnS, hi]; rfl
  rw [e]
  exact ⟨none, 0, ta', tk', h1, Li.nil _ _ _, h2, Off.nil _ _, fun g _ => Off.nil _ _⟩
 have pg := gathers_ok c
 have pa := all_ok c
 have pt := target_ok c
 have pw := within_ok (targC c) c.count
 obtain ⟨g, hg⟩ : ∃ t, gathB c = t := ⟨_, rfl⟩
 obtain ⟨rr, hr⟩ : ∃ t, c.rdy = t := ⟨_, rfl⟩
 obtain ⟨A, hA⟩ : ∃ t, allB c = t := ⟨_, rfl⟩
 obtain ⟨Wn, hW⟩ : ∃ t, withB (targC c) c.count = t := ⟨_, rfl⟩
 obtain ⟨R, HR⟩ : ∃ t, Hid (rdyB c = t) := ⟨_, rfl⟩
 have hR : R = (g && !rr && A && Wn) := by rw [← HR.out, rdyB, hg, hr, hA, hW]
 rw [hg] at pg
 rw [hA] at pa
 rw [hW] at pw
 clear hg hA hW hL hG hO hO2 HS hka hsim
 go_enter Tryz.func102, Tryz.ntmps102
 go_upto_region 0 with fail
 have hC0 : Below w.heap.size w w.drew := (Below.refl _ _).drew
 go_cut [34] from 2 to 33 (fun v wx => v = .bool R ∧ Blk P (unc c (.slice ta Hs.length tk)) 166 wx ∧ Below w.heap.size w wx)
 case first =>
  clear fin_no fin_yes LG
  cases g with
  | false =>
   obtain rfl : R = false := by rw [hR]; rfl
   clear hR HR pa pt pw
   refine wp_region_held_drew (S := fun w' => Blk P (unc c (.slice ta Hs.length tk)) 166 w') (by kernel_rfl) b0.drew (fun hHeld => ?_)
   refine tkQ 0 hHeld ?_
   try simp only [yy]
   refine tkQ 1 hHeld ?_
   try simp only [yy]
   refine tkQ 2 hHeld ?_
   try simp only [yy]
   refine' tkH 3 (v := _) rfl (by kernel_rfl) (fun _ _ _ h => h) (yieldsIf_load_mid (by rfl) _ _ rfl P 0 rfl (col c) _ ?hS39 Tryz.underlying78 rfl sizeCo) hHeld ?_
   case hS39 => exact fun w h => h.range 0 _ (unc_core _ _)
   try simp only [yy]
   refine rd1 4 (fun K hK => ?_)
   go_simp
   go_wp2_with (refine (pg _).mono ?_; rintro r u1 ⟨rfl, hb⟩)
   have hC1 := hC0.trans (hb.mono hC0.size)
   refine hK.out _ _ (hHeld.below hb) (fun hHeld => ?_)
   clear hK K hb hC0
   refine tkQ 5 hHeld ?_
   try simp only [yy]
   refine tkU 6 hHeld ?_
   try simp only [yy]
   refine tkU 7 hHeld ?_
   try simp only [yy]
   refine tkU 8 hHeld ?_
   try simp only [yy]
   refine tkU 9 hHeld ?_
   try simp only [yy]
   refine tkU 10 hHeld ?_
   try simp only [yy]
   refine tkU 11 hHeld ?_
   try simp only [yy]
   refine tkQ 12 hHeld ?_
   try simp only [yy]
   refine tkQ 13 hHeld ?_
   try simp only [yy]
   refine tkU 14 hHeld ?_
   try simp only [yy]
   refine tkU 15 hHeld ?_
   try simp only [yy]
   refine tkU 16 hHeld ?_
   try simp only [yy]
   refine tkU 17 hHeld ?_
   try simp only [yy]
   refine tkU 18 hHeld ?_
   try simp only [yy]
   refine tkQ 19 hHeld ?_
   try simp only [yy]
   refine tkQ 20 hHeld ?_
   try simp only [yy]
   refine tkU 21 hHeld ?_
   try simp only [yy]
   refine tkU 22 hHeld ?_
   try simp only [yy]
   refine tkU 23 hHeld ?_
   try simp only [yy]
   refine tkU 24 hHeld ?_
   try simp only [yy]
   refine tkU 25 hHeld ?_
   try simp only [yy]
   refine tkU 26 hHeld ?_
   try simp only [yy]
   refine tkU 27 hHeld ?_
   try simp only [yy]
   refine tkU 28 hHeld ?_
   try simp only [yy]
   refine tkU 29 hHeld ?_
   try simp only [yy]
   refine tkU 30 hHeld ?_
   try simp only [yy]
   refine tkU 31 hHeld ?_
   try simp only [yy]
   refine tkQ 32 hHeld ?_
   try simp only [yy]
   refine wpAnyH_done (by kernel_rfl) ?_ _
   go_wp2_with fail
   go_meet
   exact ⟨rfl, hHeld, hC1⟩
  | true =>
   cases rr with
   | true =>
    obtain rfl : R = false := by rw [hR]; rfl
    clear hR HR pa pt pw
    refine wp_region_held_drew (S := fun w' => Blk P (unc c (.slice ta Hs.length tk)) 166 w') (by kernel_rfl) b0.drew (fun hHeld => ?_)
    refine tkQ 0 hHeld ?_
    try simp only [yy]
    refine tkQ 1 hHeld ?_
    try simp only [yy]
    refine tkQ 2 hHeld ?_
    try simp only [yy]
    refine' tkH 3 (v := _) rfl (by kernel_rfl) (fun _ _ _ h => h) (yieldsIf_load_mid (by rfl) _ _ rfl P 0 rfl (col c) _ ?hS71 Tryz.underlying78 rfl sizeCo) hHeld ?_
    case hS71 => exact fun w h => h.range 0 _ (unc_core _ _)
    try simp only [yy]
    refine rd1 4 (fun K hK => ?_)
    go_simp
    go_wp2_with (refine (pg _).mono ?_; rintro r u1 ⟨rfl, hb⟩)
    have hC1 := hC0.trans (hb.mono hC0.size)
    refine hK.out _ _ (hHeld.below hb) (fun hHeld => ?_)
    clear hK K hb hC0
    refine tkQ 5 hHeld ?_
    try simp only [yy]
    refine tkQ 6 hHeld ?_
    try simp only [yy]
    refine tkQ 7 hHeld ?_
    try simp only [yy]
    refine tkQ 8 hHeld ?_
    try simp only [yy]
    refine tkQ 9 hHeld ?_
    try simp only [yy]
    refine tkH 10 (v := ?v77) rfl (by kernel_rfl) (fun _ _ _ h => h) (Or.inl ⟨by rfl, ?hy77⟩) hHeld ?_
    case hy77 => (intro w hSw; have hc : w.cell? ⟨P, 59, none⟩ = some (.bool true) := (hSw.cell 59 (.bool c.rdy) rfl).trans (by rw [hr]); clear hSw; go_simp; try with_reducible rfl)
    try simp only [yy]
    refine tkQ 11 hHeld ?_
    try simp only [yy]
    refine tkQ 12 hHeld ?_
    try simp only [yy]
    refine tkQ 13 hHeld ?_
    try simp only [yy]
    refine tkU 14 hHeld ?_
    try simp only [yy]
    refine tkU 15 hHeld ?_
    try simp only [yy]
    refine tkU 16 hHeld ?_
    try simp only [yy]
    refine tkU 17 hHeld ?_
    try simp only [yy]
    refine tkU 18 hHeld ?_
    try simp only [yy]
    refine tkQ 19 hHeld ?_
    try simp only [yy]
    refine tkQ 20 hHeld ?_
    try simp only [yy]
    refine tkU 21 hHeld ?_
    try simp only [yy]
    refine tkU 22 hHeld ?_
    try simp only [yy]
    refine tkU 23 hHeld ?_
    try simp only [yy]
    refine tkU 24 hHeld ?_
    try simp only [yy]
    refine tkU 25 hHeld ?_
    try simp only [yy]
    refine tkU 26 hHeld ?_
    try simp only [yy]
    refine tkU 27 hHeld ?_
    try simp only [yy]
    refine tkU 28 hHeld ?_
    try simp only [yy]
    refine tkU 29 hHeld ?_
    try simp only [yy]
    refine tkU 30 hHeld ?_
    try simp only [yy]
    refine tkU 31 hHeld ?_
    try simp only [yy]
    refine tkQ 32 hHeld ?_
    try simp only [yy]
    refine wpAnyH_done (by kernel_rfl) ?_ _
    go_wp2_with fail
    go_meet
    exact ⟨rfl, hHeld, hC1⟩
   | false =>
    cases A with
    | false =>
     obtain rfl : R = false := by rw [hR]; rfl
     clear hR HR pt pw
     refine wp_region_held_drew (S := fun w' => Blk P (unc c (.slice ta Hs.length tk)) 166 w') (by kernel_rfl) b0.drew (fun hHeld => ?_)
     refine tkQ 0 hHeld ?_
     try simp only [yy]
     refine tkQ 1 hHeld ?_
     try simp only [yy]
     refine tkQ 2 hHeld ?_
     try simp only [yy]
     refine' tkH 3 (v := _) rfl (by kernel_rfl) (fun _ _ _ h => h) (yieldsIf_load_mid (by rfl) _ _ rfl P 0 rfl (col c) _ ?hS103 Tryz.underlying78 rfl sizeCo) hHeld ?_
     case hS103 => exact fun w h => h.range 0 _ (unc_core _ _)
     try simp only [yy]
     refine rd1 4 (fun K hK => ?_)
     go_simp
     go_wp2_with (refine (pg _).mono ?_; rintro r u1 ⟨rfl, hb⟩)
     have hC1 := hC0.trans (hb.mono hC0.size)
     refine hK.out _ _ (hHeld.below hb) (fun hHeld => ?_)
     clear hK K hb hC0
     refine tkQ 5 hHeld ?_
     try simp only [yy]
     refine tkQ 6 hHeld ?_
     try simp only [yy]
     refine tkQ 7 hHeld ?_
     try simp only [yy]
     refine tkQ 8 hHeld ?_
     try simp only [yy]
     refine tkQ 9 hHeld ?_
     try simp only [yy]
     refine tkH 10 (v := ?v109) rfl (by kernel_rfl) (fun _ _ _ h => h) (Or.inl ⟨by rfl, ?hy109⟩) hHeld ?_
     case hy109 => (intro w hSw; have hc : w.cell? ⟨P, 59, none⟩ = some (.bool false) := (hSw.cell 59 (.bool c.rdy) rfl).trans (by rw [hr]); clear hSw; go_simp; try with_reducible rfl)
     try simp only [yy]
     refine tkQ 11 hHeld ?_
     try simp only [yy]
     refine tkQ 12 hHeld ?_
     try simp only [yy]
     refine tkQ 13 hHeld ?_
     try simp only [yy]
     refine tkQ 14 hHeld ?_
     try simp only [yy]
     refine tkQ 15 hHeld ?_
     try simp only [yy]
     refine tkQ 16 hHeld ?_
     try simp only [yy]
     refine' tkH 17 (v := _) rfl (by kernel_rfl) (fun _ _ _ h => h) (yieldsIf_load_mid (by rfl) _ _ rfl P 0 rfl (col c) _ ?hS116 Tryz.underlying78 rfl sizeCo) hHeld ?_
     case hS116 => exact fun w h => h.range 0 _ (unc_core _ _)
     try simp only [yy]
     refine rd1 18 (fun K hK => ?_)
     go_simp
     go_wp2_with (refine (pa _).mono ?_; rintro r u2 ⟨rfl, hb⟩)
     have hC2 := hC1.trans (hb.mono hC1.size)
     refine hK.out _ _ (hHeld.below hb) (fun hHeld => ?_)
     clear hK K hb hC1
     refine tkQ 19 hHeld ?_
     try simp only [yy]
     refine tkQ 20 hHeld ?_
     try simp only [yy]
     refine tkU 21 hHeld ?_
     try simp only [yy]
     refine tkU 22 hHeld ?_
     try simp only [yy]
     refine tkU 23 hHeld ?_
     try simp only [yy]
     refine tkU 24 hHeld ?_
     try simp only [yy]
     refine tkU 25 hHeld ?_
     try simp only [yy]
     refine tkU 26 hHeld ?_
     try simp only [yy]
     refine tkU 27 hHeld ?_
     try simp only [yy]
     refine tkU 28 hHeld ?_
     try simp only [yy]
     refine tkU 29 hHeld ?_
     try simp only [yy]
     refine tkU 30 hHeld ?_
     try simp only [yy]
     refine tkU 31 hHeld ?_
     try simp only [yy]
     refine tkQ 32 hHeld ?_
     try simp only [yy]
     refine wpAnyH_done (by kernel_rfl) ?_ _
     go_wp2_with fail
     go_meet
     exact ⟨rfl, hHeld, hC2⟩
    | true =>
     obtain rfl : R = Wn := by rw [hR]; rfl
     clear hR HR
     refine wp_region_held_drew (S := fun w' => Blk P (unc c (.slice ta Hs.length tk)) 166 w') (by kernel_rfl) b0.drew (fun hHeld => ?_)
     refine tkQ 0 hHeld ?_
     try simp only [yy]
     refine tkQ 1 hHeld ?_
     try simp only [yy]
     refine tkQ 2 hHeld ?_
     try simp only [yy]
     refine' tkH 3 (v := _) rfl (by kernel_rfl) (fun _ _ _ h => h) (yieldsIf_load_mid (by rfl) _ _ rfl P 0 rfl (col c) _ ?hS134 Tryz.underlying78 rfl sizeCo) hHeld ?_
     case hS134 => exact fun w h => h.range 0 _ (unc_core _ _)
     try simp only [yy]
     refine rd1 4 (fun K hK => ?_)
     go_simp
     go_wp2_with (refine (pg _).mono ?_; rintro r u1 ⟨rfl, hb⟩)
     have hC1 := hC0.trans (hb.mono hC0.size)
     refine hK.out _ _ (hHeld.below hb) (fun hHeld => ?_)
     clear hK K hb hC0
     refine tkQ 5 hHeld ?_
     try simp only [yy]
     refine tkQ 6 hHeld ?_
     try simp only [yy]
     refine tkQ 7 hHeld ?_
     try simp only [yy]
     refine tkQ 8 hHeld ?_
     try simp only [yy]
     refine tkQ 9 hHeld ?_
     try simp only [yy]
     refine tkH 10 (v := ?v140) rfl (by kernel_rfl) (fun _ _ _ h => h) (Or.inl ⟨by rfl, ?hy140⟩) hHeld ?_
     case hy140 => (intro w hSw; have hc : w.cell? ⟨P, 59, none⟩ = some (.bool false) := (hSw.cell 59 (.bool c.rdy) rfl).trans (by rw [hr]); clear hSw; go_simp; try with_reducible rfl)
     try simp only [yy]
     refine tkQ 11 hHeld ?_
     try simp only [yy]
     refine tkQ 12 hHeld ?_
     try simp only [yy]
     refine tkQ 13 hHeld ?_
     try simp only [yy]
     refine tkQ 14 hHeld ?_
     try simp only [yy]
     refine tkQ 15 hHeld ?_
     try simp only [yy]
     refine tkQ 16 hHeld ?_
     try simp only [yy]
     refine' tkH 17 (v := _) rfl (by kernel_rfl) (fun _ _ _ h => h) (yieldsIf_load_mid (by rfl) _ _ rfl P 0 rfl (col c) _ ?hS147 Tryz.underlying78 rfl sizeCo) hHeld ?_
     case hS147 => exact fun w h => h.range 0 _ (unc_core _ _)
     try simp only [yy]
     refine rd1 18 (fun K hK => ?_)
     go_simp
     go_wp2_with (refine (pa _).mono ?_; rintro r u2 ⟨rfl, hb⟩)
     have hC2 := hC1.trans (hb.mono hC1.size)
     refine hK.out _ _ (hHeld.below hb) (fun hHeld => ?_)
     clear hK K hb hC1
     refine tkQ 19 hHeld ?_
     try simp only [yy]
     refine tkQ 20 hHeld ?_
     try simp only [yy]
     refine tkQ 21 hHeld ?_
     try simp only [yy]
     refine tkQ 22 hHeld ?_
     try simp only [yy]
     refine tkQ 23 hHeld ?_
     try simp only [yy]
     refine' tkH 24 (v := _) rfl (by kernel_rfl) (fun _ _ _ h => h) (yieldsIf_load_mid (by rfl) _ _ rfl P 0 rfl (col c) _ ?hS153 Tryz.underlying78 rfl sizeCo) hHeld ?_
     case hS153 => exact fun w h => h.range 0 _ (unc_core _ _)
     try simp only [yy]
     refine tkQ 26 hHeld ?_
     try simp only [yy]
     refine tkQ 27 hHeld ?_
     try simp only [yy]
     refine tkQ 28 hHeld ?_
     try simp only [yy]
     refine tkQ 29 hHeld ?_
     try simp only [yy]
     refine' tkH 30 (v := _) rfl (by kernel_rfl) (fun _ _ _ h => h) (yieldsIf_load_mid (by rfl) _ _ rfl P 31 rfl (row8 c.count) _ ?hS158 Tryz.underlying60 rfl sizeCt) hHeld ?_
     case hS158 => exact fun w h => h.range 31 _ (un_count _ _)
     try simp only [yy]
     refine rd1 25 (fun K hK => ?_)
     go_simp
     go_wp2_with (refine (pt _).mono ?_; rintro r u3 ⟨rfl, hb⟩)
     have hC3 := hC2.trans (hb.mono hC2.size)
     refine hK.out _ _ (hHeld.below hb) (fun hHeld => ?_)
     clear hK K hb hC2
     refine rd1 31 (fun K hK => ?_)
     go_simp
     go_wp2_with (refine (pw _).mono ?_; rintro r u4 ⟨rfl, hb⟩)
     have hC4 := hC3.trans (hb.mono hC3.size)
     refine hK.out _ _ (hHeld.below hb) (fun hHeld => ?_)
     clear hK K hb hC3
     refine tkQ 32 hHeld ?_
     try simp only [yy]
     refine wpAnyH_done (by kernel_rfl) ?_ _
     go_wp2_with fail
     go_meet
     exact ⟨rfl, hHeld, hC4⟩
 case rest =>
  obtain ⟨rfl, bP, hb⟩ := hcut
  have kP : Kp [P] w _ := Kp.of_below hb
  clear b0 hC0 pg pa pt pw hb hR hr
  rename World => w1
  cases R with
  | true =>
   have e1 : readyC c = c.wRdy true := by rw [readyC, HR.out]; rfl
   rw [e1] at fin_no fin_yes
   clear e1 HR
   go_upto_region 2 with ((refine store_one rfl 4 _ _ rfl (off := 59) (.bool true) bP rfl rfl rfl rfl sizeBool (by rw [unc_size]; decide) ?_; intro w2 b2 k2; rw [unc_set _ _ _ 59 _ (Co.s_rdy c true) (by decide)] at b2; have kp2 := kP.trans (k2.mono (fun i hi => by simp at hi; simp [hi]))))
   try simp only [Act.put]
   replace kP := kp2
   replace bP := b2
   clear kp2 k2 b2
   obtain ⟨c1, hc1⟩ : ∃ c1, Hid (c.wRdy true = c1) := ⟨_, rfl⟩
   have bP : Blk P (unc (c.wRdy true) (.slice ta Hs.length tk)) 166 w2 := bP
   rw [hc1.out] at fin_no fin_yes bP
   clear hc1
   have pg := gathers_ok c1
   have pd := done_ok c1
   obtain ⟨g, hg⟩ : ∃ t, gathB c1 = t := ⟨_, rfl⟩
   obtain ⟨r, hr⟩ : ∃ t, c1.rdy = t := ⟨_, rfl⟩
   obtain ⟨D, hD⟩ : ∃ t, doneB c1 = t := ⟨_, rfl⟩
   have HI : Hid (insB c1 = (g && r && D)) := by show insB c1 = _; rw [insB, hg, hr, hD]
   rw [hg] at pg
   rw [hD] at pd
   have p0 := bP.cell 59 (.bool c1.rdy) rfl
   rw [hr] at p0
   clear hg hD
   go_wp2_with (refine load_part rfl 78 _ rfl (o := 0) bP rfl (col c1) (unc_core _ _) Tryz.underlying78 rfl sizeCo ?_)
   refine (pg _).mono ?_
   rintro e0 w3 ⟨rfl, hb⟩
   clear p0
   replace bP := bP.below hb
   replace kP := kP.trans (Kp.of_below hb)
   clear hb pg
   have p0 := bP.cell 59 (.bool c1.rdy) rfl
   rw [hr] at p0
   cases g with
   | false =>
    go_wp2_with fail
    go_end0
    exact ⟨rfl, fin_no _ bP kP HI.out⟩
   | true =>
    cases r with
    | false =>
     go_wp2_with fail
     go_end0
     exact ⟨rfl, fin_no _ bP kP HI.out⟩
    | true =>
     go_wp2_with (refine load_wpart rfl 78 _ rfl (o := 0) bP rfl (col c1) (unc_core _ _) Tryz.underlying78 rfl sizeCo ?_)
     refine (pd _).mono ?_
     rintro e0 w4 ⟨rfl, hb⟩
     replace bP := bP.below hb
     replace kP := kP.trans (Kp.of_below hb)
     clear hb pd p0
     cases D with
     | false =>
      go_wp2_with fail
      go_end0
      exact ⟨rfl, fin_no _ bP kP HI.out⟩
     | true =>
      go_wp2_with fail
      refine (install_ok P c1 ta tk Hs ht _ bP (LG kP)).mono ?_
      rintro e0 w5 ⟨rfl, hI⟩
      go_wp2_with fail
      go_end0
      exact ⟨rfl, fin_yes _ _ hI kP HI.out⟩
  | false =>
   have e1 : readyC c = c := by rw [readyC, HR.out]; rfl
   rw [e1] at fin_no fin_yes
   clear e1 HR
   go_upto_region 2 with fail
   have pg := gathers_ok c
   have pd := done_ok c
   obtain ⟨g, hg⟩ : ∃ t, gathB c = t := ⟨_, rfl⟩
   obtain ⟨r, hr⟩ : ∃ t, c.rdy = t := ⟨_, rfl⟩
   obtain ⟨D, hD⟩ : ∃ t, doneB c = t := ⟨_, rfl⟩
   have HI : Hid (insB c = (g && r && D)) := by show insB c = _; rw [insB, hg, hr, hD]
   rw [hg] at pg
   rw [hD] at pd
   have p0 := bP.cell 59 (.bool c.rdy) rfl
   rw [hr] at p0
   clear hg hD
   go_wp2_with (refine load_part rfl 78 _ rfl (o := 0) bP rfl (col c) (unc_core _ _) Tryz.underlying78 rfl sizeCo ?_)
   refine (pg _).mono ?_
   rintro e0 w3 ⟨rfl, hb⟩
   clear p0
   replace bP := bP.below hb
   replace kP := kP.trans (Kp.of_below hb)
   clear hb pg
   have p0 := bP.cell 59 (.bool c.rdy) rfl
   rw [hr] at p0
   cases g with
   | false =>
    go_wp2_with fail
    go_end0
    exact ⟨rfl, fin_no _ bP kP HI.out⟩
   | true =>
    cases r with
    | false =>
     go_wp2_with fail
     go_end0
     exact ⟨rfl, fin_no _ bP kP HI.out⟩
    | true =>
     go_wp2_with (refine load_wpart rfl 78 _ rfl (o := 0) bP rfl (col c) (unc_core _ _) Tryz.underlying78 rfl sizeCo ?_)
     refine (pd _).mono ?_
     rintro e0 w4 ⟨rfl, hb⟩
     replace bP := bP.below hb
     replace kP := kP.trans (Kp.of_below hb)
     clear hb pd p0
     cases D with
     | false =>
      go_wp2_with fail
      go_end0
      exact ⟨rfl, fin_no _ bP kP HI.out⟩
     | true =>
      go_wp2_with fail
      refine (install_ok P c ta tk Hs ht _ bP (LG kP)).mono ?_
      rintro e0 w5 ⟨rfl, hI⟩
      go_wp2_with fail
      go_end0
      exact ⟨rfl, fin_yes _ _ hI kP HI.out⟩
end Go.Proofs.YthgfpdidilolgaaGreat
