/-
  Of the texts beneath these laws, in their order: CeG, ImR, CtV, GaB.
  Each theorem says its own conditions.
-/
import Derived.Test.YthgfpdidilolgaaGreatZ22
import Derived.Test.YthgfpdidilolgaaGreatZ04
import Derived.Test.YthgfpdidilolgaaGreatZ03
import Derived.Test.YthgfpdidilolgaaGreatZ00
import Derived.Test.YthgfpdidilolgaaGreatZ16
namespace Go.Proofs.YthgfpdidilolgaaGreat
set_option maxRecDepth 10000
set_option linter.unusedSimpArgs false
open Go.RowKit Go.Sort
set_option linter.unusedVariables false
def Cg (P V : Nat) (c : Co) (q : Os) (Hs : List Hp) (ta : Option Addr) (tk : Nat) (w : World) (v : Value) (w' : World) : Prop :=
 ∃ a2 k2 b2 j2, v = .slice b2 q.t.length j2 ∧ Blk P (unc ((c.wCount q.c).kp a2 q.L.length k2) (.slice ta Hs.length tk)) 166 w' ∧ Li Kt.vals V a2 q.L w' ∧ Li Kt.vals V b2 q.t w' ∧ Lg Hp.vals 50 57 (P + 1) ta tk Hs w' ∧ Below P w w'
set_option maxHeartbeats 8000000 in
theorem takeFrames_ok (B P : Nat) (s0 : Sg) (p : Pk) (s : Nat) (hs : s < 8) (hcs : s0.c.self = (s : Int)) (hc : ∀ i, s0.c.count i < 4294967296) (hl : s0.L.length * 352 ≤ 140737488351232) (ht : (s0.t.length + 4) * 408 ≤ 140737488355328) (hBP : B ≤ P) (w : World) (hU : Uv 166 B P s0 w) :
  Calls Tryz.prog 151 #[.pointer (some ⟨P, 0, none⟩), .agg (pkc p)] w fun e w' => e = .returned (.tuple #[]) ∧ Uv 166 B P (offS s0 p) w' ∧ Below P w w' := by
 obtain ⟨c0, L, Hs⟩ := s0
 obtain ⟨c, ta, tk, hn, hsim, b0, hL, hG, hO, hO2⟩ := hU.open
 have hU0 := hU
 clear hU
 replace hn : c.kn = L.length := hn
 replace b0 : Blk P (unc c (.slice ta Hs.length tk)) 166 w := b0
 replace hL : Li Kt.vals B c.ka L w := hL
 replace hG : Lg Hp.vals 50 57 (P + 1) ta tk Hs w := hG
 replace hl : L.length * 352 ≤ 140737488351232 := hl
 replace ht : (Hs.length + 4) * 408 ≤ 140737488355328 := ht
 have hP := b0.lt
 have hin := hG.in
 obtain ⟨a9, n9, k9, hcc⟩ := eq_kp hsim
 replace hcs : c.self = (s : Int) := by rw [hcc]; exact hcs
 replace hc : ∀ i, c.count i < 4294967296 := by rw [hcc]; exact hc
 have HS := off_sim hsim L Hs p
 have pm := most_ok P c (.slice ta Hs.length tk) s hs hcs
 have pof := fun (u : World) (h : Li Kt.vals 0 c.ka L u) => offer_new L c.ka c.kc c.count c.mem (mostC c) p hc hl u h
 obtain ⟨q, hq⟩ : ∃ q, offO c.mem (mostC c) p (Os.mk L c.count []) = q := ⟨_, rfl⟩
 have hq3 : q.t.length ≤ 3 := by rw [← hq]; exact offO_tlen _ _ _ _
 obtain ⟨t1, ht1⟩ : ∃ t, mostB c = t := ⟨_, rfl⟩
 obtain ⟨t2, ht2⟩ : ∃ t, Idn.same p.conf c.conf = t := ⟨_, rfl⟩
 have HF : Hid (offS ⟨c, L, Hs⟩ p = if (t1 && t2) = true then ⟨c.wCount q.c, q.L, Hs ++ q.t.map takeH⟩ else ⟨c, L, Hs⟩) := by
  show offS ⟨c, L, Hs⟩ p = _
  rw [offS, ht1, ht2]
  have e : offedS ⟨c, L, Hs⟩ p = ⟨c.wCount q.c, q.L, Hs ++ q.t.map takeH⟩ := by rw [← hq]; rfl
  rw [e]
 have fin_no : ∀ u, Below w.heap.size w u → (t1 && t2) = false → Uv 166 B P (offS ⟨c0, L, Hs⟩ p) u ∧ Below P w u := by
  intro u hb hi
  refine ⟨Uv.sim ?_ HS, hb.mono (by omega)⟩
  rw [HF.out, hi]
  exact (hU0.below hb).sim ⟨fun a n k => (hsim a n k).symm, rfl, rfl⟩
 have k2 : ∀ w, (binOp .neq 51 (.agg p.conf.vals.toArray) (.agg c.conf.vals.toArray)).run Tryz.prog w = .ok (.bool (!t2)) w := neqIdn _ _ t2 ht2
 rw [hq] at pof
 rw [ht1] at pm
 clear ht1 ht2 hq hsim hcc hU0
 unfold OfferedB at pof
 have a0 := blk_new w (pkc p) 116
 have hb := below_box w (.cells (pkc p) 116)
 go_enter Tryz.func151, Tryz.ntmps151
 go_upto_region 1 with fail
 generalize w.alloc (Obj.cells (pkc p) 116) = W at a0 hb ⊢
 have bP := b0.below hb
 have hB := hb
 clear b0 hb
 go_wp2_with fail
 refine (pm _ bP).mono ?_
 rintro r w1 ⟨rfl, hb⟩
 replace a0 := a0.below hb
 replace bP := bP.below hb
 replace hB := hB.trans (hb.mono hB.size)
 clear hb pm
 have hb := below_box w1 (.cells (mbc (mostC c)) 60)
 have y0 := blk_new w1 (mbc (mostC c)) 60
 have hal := a0.lt
 go_upto_region 2 with (first | refine alloc_zero zeroCt rfl rfl ?_ | refine store_new rfl 60 _ _ rfl (cells := mbc (mostC c)) rfl rfl sizeCt rfl (mbc_one _) ?_)
 try simp only [Act.put, List.setIfInBounds_toArray, List.set_cons_zero, List.set_cons_succ]
 generalize w1.alloc (Obj.cells (mbc (mostC c)) 60) = W1 at y0 hb ⊢
 replace a0 := a0.below hb
 replace bP := bP.below hb
 replace hB := hB.trans (hb.mono hB.size)
 clear hb 
 generalize w1.heap.size = Y at y0 hal ⊢
 have hC0 : Below W1.heap.size W1 W1.drew := (Below.refl _ _).drew
 go_cut [25] from 14 to 24 (fun v wx => v = .bool (!(t1 && t2)) ∧ Blk w.heap.size (pkc p) 116 wx ∧ Blk P (unc c (.slice ta Hs.length tk)) 166 wx ∧ Below W1.heap.size W1 wx)
 case first =>
  clear fin_no HF
  cases t1 with
  | false =>
   refine wp_region_held_drew (S := fun w' => Blk w.heap.size (pkc p) 116 w' ∧ Blk P (unc c (.slice ta Hs.length tk)) 166 w') (by kernel_rfl) ⟨a0.drew, bP.drew⟩ (fun hHeld => ?_)
   refine tkQ 0 hHeld ?_
   try simp only [yy]
   refine tkQ 1 hHeld ?_
   try simp only [yy]
   refine tkQ 2 hHeld ?_
   try simp only [yy]
   refine tkU 3 hHeld ?_
   try simp only [yy]
   refine tkU 4 hHeld ?_
   try simp only [yy]
   refine tkU 5 hHeld ?_
   try simp only [yy]
   refine tkU 6 hHeld ?_
   try simp only [yy]
   refine tkU 7 hHeld ?_
   try simp only [yy]
   refine tkU 8 hHeld ?_
   try simp only [yy]
   refine tkU 9 hHeld ?_
   try simp only [yy]
   refine tkU 10 hHeld ?_
   try simp only [yy]
   refine tkQ 11 hHeld ?_
   try simp only [yy]
   refine wpAnyH_done (by kernel_rfl) ?_ _
   go_wp2_with fail
   go_meet
   exact ⟨rfl, hHeld.1, hHeld.2, hC0⟩
  | true =>
   refine wp_region_held_drew (S := fun w' => Blk w.heap.size (pkc p) 116 w' ∧ Blk P (unc c (.slice ta Hs.length tk)) 166 w') (by kernel_rfl) ⟨a0.drew, bP.drew⟩ (fun hHeld => ?_)
   refine tkQ 0 hHeld ?_
   try simp only [yy]
   refine tkQ 1 hHeld ?_
   try simp only [yy]
   refine tkQ 2 hHeld ?_
   try simp only [yy]
   refine tkQ 3 hHeld ?_
   try simp only [yy]
   refine' tkH 4 (v := _) rfl (by kernel_rfl) (fun _ _ _ h => h) (yieldsIf_load_mid (by rfl) _ _ rfl w.heap.size 2 rfl p.conf.vals _ ?hS17 Tryz.underlying51 rfl sizeIdn) hHeld ?_
   case hS17 => exact fun w h => h.1.range 2 _ p.p_conf
   try simp only [yy]
   refine tkQ 5 hHeld ?_
   try simp only [yy]
   refine tkQ 6 hHeld ?_
   try simp only [yy]
   refine tkQ 7 hHeld ?_
   try simp only [yy]
   refine tkQ 8 hHeld ?_
   try simp only [yy]
   refine' tkH 9 (v := _) rfl (by kernel_rfl) (fun _ _ _ h => h) (yieldsIf_load_mid (by rfl) _ _ rfl P 20 rfl c.conf.vals _ ?hS22 Tryz.underlying51 rfl sizeIdn) hHeld ?_
   case hS22 => exact fun w h => h.2.range 20 _ (un_conf _ _)
   try simp only [yy]
   refine tkQ 10 hHeld ?_
   try simp only [yy]
   refine tkQ 11 hHeld ?_
   try simp only [yy]
   refine wpAnyH_done (by kernel_rfl) ?_ _
   go_wp2_with fail
   go_meet
   exact ⟨rfl, hHeld.1, hHeld.2, hC0⟩
 case rest =>
  obtain ⟨rfl, a0', bP', hb⟩ := hcut
  clear a0 bP hC0 k2
  rename World => w2
  replace y0 := y0.below hb
  replace hB := hB.trans (hb.mono hB.size)
  clear hb
  have a0 := a0'
  have bP := bP'
  clear a0' bP'
  obtain ⟨tt, htt⟩ : ∃ t, (t1 && t2) = t := ⟨_, rfl⟩
  rw [htt] at HF fin_no ⊢
  clear htt
  cases tt with
  | false =>
   go_wp2_with fail
   (try simp only [Exit.inBlock, Exit.then])
   refine bodyPost_ret (results_none rfl _ _ _) rfl ?_
   exact ⟨rfl, fin_no _ hB (by simp)⟩
  | true =>
   rw [show (!true) = false from rfl]
   clear fin_no
   replace HF : Hid (offS ⟨c, L, Hs⟩ p = ⟨c.wCount q.c, q.L, Hs ++ q.t.map takeH⟩) := HF.out.trans (if_pos rfl)
   replace hL := (hL.below hB).below (Below.refl _ _).drew
   replace hG := (hG.below hB).below (Below.refl _ _).drew
   have hWs := hB.size
   replace hB : Below P w w2.drew := (hB.mono (by omega)).drew
   have hP3 : P < w2.heap.size := bP.lt
   have hdr : w2.drew.heap.size = w2.heap.size := rfl
   have hYl : Y < w2.heap.size := y0.lt
   have bP0 := bP.drew
   go_upto_region 4 with fail
   go_cut [6] from 26 to 55 (fun v wx => Cg P w2.heap.size c q Hs ta tk w v wx)
   case first =>
    clear HF bP
    have bP := bP0
    have hY0 := y0.drew
    have hX0 := a0.drew
    clear bP0 y0 a0
    refine wp_region_held_drew (S := fun w' => (∃ x1 a1 n1 k1, Blk P (unc (Co.mk c.self c.wait c.own c.beat c.conf c.mem x1 a1 n1 k1 c.pr c.want c.cut c.rdy c.peers c.epoch) (.slice ta Hs.length tk)) 166 w') ∧ Blk w.heap.size (pkc p) 116 w' ∧ Blk Y (mbc (mostC c)) 60 w') (by kernel_rfl) ⟨⟨_, _, _, _, bP⟩, hX0, hY0⟩ (fun hHeld => ?_)
    refine tkQ 0 hHeld ?_
    try simp only [yy]
    refine tkQ 1 hHeld ?_
    try simp only [yy]
    refine tkQ 2 hHeld ?_
    try simp only [yy]
    refine tkQ 3 hHeld ?_
    try simp only [yy]
    refine tkQ 4 hHeld ?_
    try simp only [yy]
    refine tkQ 5 hHeld ?_
    try simp only [yy]
    refine tkQ 7 hHeld ?_
    try simp only [yy]
    refine tkQ 8 hHeld ?_
    try simp only [yy]
    refine tkQ 9 hHeld ?_
    try simp only [yy]
    refine tkQ 10 hHeld ?_
    try simp only [yy]
    refine tkQ 12 hHeld ?_
    try simp only [yy]
    refine tkQ 13 hHeld ?_
    try simp only [yy]
    refine tkQ 14 hHeld ?_
    try simp only [yy]
    refine tkQ 15 hHeld ?_
    try simp only [yy]
    refine' tkH 16 (v := _) rfl (by kernel_rfl) (fun _ _ _ h => h) (yieldsIf_load_mid (by rfl) _ _ rfl P 23 rfl (row8 c.mem) _ ?hS39 Tryz.underlying55 rfl sizeMb) hHeld ?_
    case hS39 => exact fun w h => (by obtain ⟨⟨x1, a1, n1, k1, h⟩, _⟩ := h; exact h.range 23 _ (un_mem _ _))
    try simp only [yy]
    refine' tkH 17 (v := _) rfl (by kernel_rfl) (fun _ _ _ h => h) (yieldsIf_load_mid (by rfl) _ _ rfl w.heap.size 0 rfl (pkl p) _ ?hS40 Tryz.underlying116 rfl sizePk) hHeld ?_
    case hS40 => exact fun w h => h.2.1.whole
    try simp only [yy]
    refine' tkH 18 (v := _) rfl (by kernel_rfl) (fun _ _ _ h => h) (yieldsIf_load_mid (by rfl) _ _ rfl Y 0 rfl (row8 (mostC c)) _ ?hS41 Tryz.underlying60 rfl sizeCt) hHeld ?_
    case hS41 => exact fun w h => h.2.2.whole
    try simp only [yy]
    refine wpAnyH_ready (rs := [6, 11]) (by kernel_rfl) (by simp) ?_
    refine AllReadyH.cons rfl (fun K hK => ?_) (AllReadyH.cons rfl (fun K hK => ?_) (AllReadyH.nil))
    ·rw [if_pos (by rfl)]
     refine wp_load_cell 73 _ rfl (.slice c.ka L.length c.kc) rfl ((bP.cell 39 (.slice c.ka c.kn c.kc) rfl).trans (by rw [hn])) Tryz.underlying73 rfl ?_
     refine hK.out _ _ hHeld (fun hHeld => ?_)
     clear hK K 
     try simp only [yy]
     refine rd1 11 (fun K hK => ?_)
     rw [if_pos (by rfl)]
     refine wp_load_part 60 _ rfl (o := 31) bP rfl (row8 c.count) (un_count _ _) Tryz.underlying60 rfl sizeCt ?_
     refine hK.out _ _ hHeld (fun hHeld => ?_)
     clear hK K 
     try simp only [yy]
     refine rd1 19 (fun K hK => ?_)
     go_simp
     go_wp2_with (refine (pof _ (hL.mono (Nat.zero_le _))).mono ?_; rintro r u3 ⟨⟨a2, k2, b2, j2, rfl, hL2, hT2⟩, hb⟩)
     replace bP := bP.below hb
     replace hG := hG.below hb
     replace hB := hB.trans (hb.mono (by omega))
     have hPv := bP.lt
     refine hK.out _ _ ⟨⟨_, _, _, _, bP⟩, hHeld.2.1.below hb, hHeld.2.2.below hb⟩ (fun hHeld => ?_)
     clear hK K hL hb
     refine tkQ 20 hHeld ?_
     try simp only [yy]
     refine tkQ 21 hHeld ?_
     try simp only [yy]
     refine tkQ 22 hHeld ?_
     try simp only [yy]
     refine tkQ 23 hHeld ?_
     try simp only [yy]
     refine tkQ 24 hHeld ?_
     try simp only [yy]
     refine tkQ 25 hHeld ?_
     try simp only [yy]
     refine tkQ 26 hHeld ?_
     try simp only [yy]
     refine rd1 27 (fun K hK => ?_)
     rw [if_pos (by rfl)]
     refine wp_store_one 73 _ _ rfl (off := 39) (.slice a2 q.L.length k2) bP rfl rfl rfl rfl sizeSl (by rw [unc_size]; decide) ?_
     intro u4 hn9 hk9
     rw [unc_set _ _ _ 39 _ (Co.s_kept c a2 q.L.length k2) (by decide)] at hn9
     replace bP := hn9
     have kP := hk9
     replace hG := hG.kp hk9 (by simp)
     replace hL2 := hL2.off hk9 (fun x hx => by simp at hx; subst hx; exact Off.li hL2 _ (.inl (by omega)))
     replace hT2 := hT2.off hk9 (fun x hx => by simp at hx; subst hx; exact Off.li hT2 _ (.inl (by omega)))
     refine hK.out _ _ ⟨⟨_, _, _, _, bP⟩, hHeld.2.1.kp1 hk9 (by omega), hHeld.2.2.kp1 hk9 (by omega)⟩ (fun hHeld => ?_)
     clear hK K hn9 hk9
     try simp only [yy]
     refine tkQ 28 hHeld ?_
     try simp only [yy]
     refine tkQ 29 hHeld ?_
     try simp only [yy]
     refine tkQ 30 hHeld ?_
     try simp only [yy]
     refine rd1 31 (fun K hK => ?_)
     rw [if_pos (by rfl)]
     refine wp_store_part 60 _ _ rfl (off := 31) (cells := (mbc q.c)) bP rfl rfl sizeCt (show 31 + 8 ≤ 190 by decide) (mbc_one _) ?_
     intro u5 hn9 hk9
     rw [unc_put _ _ _ 31 _ (Co.s_count _ q.c) (show 31 + 8 ≤ 189 by decide)] at hn9
     replace bP := hn9
     replace kP := kP.trans (hk9.mono (fun i hi => by simp at hi; simp [hi]))
     replace hG := hG.kp hk9 (by simp)
     replace hL2 := hL2.off hk9 (fun x hx => by simp at hx; subst hx; exact Off.li hL2 _ (.inl (by omega)))
     replace hT2 := hT2.off hk9 (fun x hx => by simp at hx; subst hx; exact Off.li hT2 _ (.inl (by omega)))
     refine hK.out _ _ ⟨⟨_, _, _, _, bP⟩, hHeld.2.1.kp1 hk9 (by omega), hHeld.2.2.kp1 hk9 (by omega)⟩ (fun hHeld => ?_)
     clear hK K hn9 hk9
     try simp only [yy]
     refine tkQ 32 hHeld ?_
     try simp only [yy]
     refine wpAnyH_done (by kernel_rfl) ?_ _
     clear hHeld
     go_wp2_with fail
     go_meet
     exact ⟨a2, k2, b2, j2, rfl, bP, hL2, hT2, hG, hB.trans (kP.below1 (by omega) (by omega))⟩
    ·rw [if_pos (by rfl)]
     refine wp_load_part 60 _ rfl (o := 31) bP rfl (row8 c.count) (un_count _ _) Tryz.underlying60 rfl sizeCt ?_
     refine hK.out _ _ hHeld (fun hHeld => ?_)
     clear hK K 
     try simp only [yy]
     refine rd1 6 (fun K hK => ?_)
     rw [if_pos (by rfl)]
     refine wp_load_cell 73 _ rfl (.slice c.ka L.length c.kc) rfl ((bP.cell 39 (.slice c.ka c.kn c.kc) rfl).trans (by rw [hn])) Tryz.underlying73 rfl ?_
     refine hK.out _ _ hHeld (fun hHeld => ?_)
     clear hK K 
     try simp only [yy]
     refine rd1 19 (fun K hK => ?_)
     go_simp
     go_wp2_with (refine (pof _ (hL.mono (Nat.zero_le _))).mono ?_; rintro r u8 ⟨⟨a2, k2, b2, j2, rfl, hL2, hT2⟩, hb⟩)
     replace bP := bP.below hb
     replace hG := hG.below hb
     replace hB := hB.trans (hb.mono (by omega))
     have hPv := bP.lt
     refine hK.out _ _ ⟨⟨_, _, _, _, bP⟩, hHeld.2.1.below hb, hHeld.2.2.below hb⟩ (fun hHeld => ?_)
     clear hK K hL hb
     refine tkQ 20 hHeld ?_
     try simp only [yy]
     refine tkQ 21 hHeld ?_
     try simp only [yy]
     refine tkQ 22 hHeld ?_
     try simp only [yy]
     refine tkQ 23 hHeld ?_
     try simp only [yy]
     refine tkQ 24 hHeld ?_
     try simp only [yy]
     refine tkQ 25 hHeld ?_
     try simp only [yy]
     refine tkQ 26 hHeld ?_
     try simp only [yy]
     refine rd1 27 (fun K hK => ?_)
     rw [if_pos (by rfl)]
     refine wp_store_one 73 _ _ rfl (off := 39) (.slice a2 q.L.length k2) bP rfl rfl rfl rfl sizeSl (by rw [unc_size]; decide) ?_
     intro u9 hn9 hk9
     rw [unc_set _ _ _ 39 _ (Co.s_kept c a2 q.L.length k2) (by decide)] at hn9
     replace bP := hn9
     have kP := hk9
     replace hG := hG.kp hk9 (by simp)
     replace hL2 := hL2.off hk9 (fun x hx => by simp at hx; subst hx; exact Off.li hL2 _ (.inl (by omega)))
     replace hT2 := hT2.off hk9 (fun x hx => by simp at hx; subst hx; exact Off.li hT2 _ (.inl (by omega)))
     refine hK.out _ _ ⟨⟨_, _, _, _, bP⟩, hHeld.2.1.kp1 hk9 (by omega), hHeld.2.2.kp1 hk9 (by omega)⟩ (fun hHeld => ?_)
     clear hK K hn9 hk9
     try simp only [yy]
     refine tkQ 28 hHeld ?_
     try simp only [yy]
     refine tkQ 29 hHeld ?_
     try simp only [yy]
     refine tkQ 30 hHeld ?_
     try simp only [yy]
     refine rd1 31 (fun K hK => ?_)
     rw [if_pos (by rfl)]
     refine wp_store_part 60 _ _ rfl (off := 31) (cells := (mbc q.c)) bP rfl rfl sizeCt (show 31 + 8 ≤ 190 by decide) (mbc_one _) ?_
     intro u10 hn9 hk9
     rw [unc_put _ _ _ 31 _ (Co.s_count _ q.c) (show 31 + 8 ≤ 189 by decide)] at hn9
     replace bP := hn9
     replace kP := kP.trans (hk9.mono (fun i hi => by simp at hi; simp [hi]))
     replace hG := hG.kp hk9 (by simp)
     replace hL2 := hL2.off hk9 (fun x hx => by simp at hx; subst hx; exact Off.li hL2 _ (.inl (by omega)))
     replace hT2 := hT2.off hk9 (fun x hx => by simp at hx; subst hx; exact Off.li hT2 _ (.inl (by omega)))
     refine hK.out _ _ ⟨⟨_, _, _, _, bP⟩, hHeld.2.1.kp1 hk9 (by omega), hHeld.2.2.kp1 hk9 (by omega)⟩ (fun hHeld => ?_)
     clear hK K hn9 hk9
     try simp only [yy]
     refine tkQ 32 hHeld ?_
     try simp only [yy]
     refine wpAnyH_done (by kernel_rfl) ?_ _
     clear hHeld
     go_wp2_with fail
     go_meet
     exact ⟨a2, k2, b2, j2, rfl, bP, hL2, hT2, hG, hB.trans (kP.below1 (by omega) (by omega))⟩
   case rest =>
    obtain ⟨a2, k2, b2, j2, rfl, bP', hL2, hT2, hG', hB'⟩ := hcut
    clear hL hG hB bP0 bP y0 a0 pof
    rename World => w3
    obtain ⟨cc, hcc⟩ : ∃ cc, Hid ((c.wCount q.c).kp a2 q.L.length k2 = cc) := ⟨_, rfl⟩
    rw [hcc.out] at bP'
    have hO3 : Off a2 q.L P := Off.li hL2 _ (.inl hP3)
    have hO4 : ∀ g ∈ blkOf ta, Off a2 q.L g := fun g hg => Off.li hL2 _ (.inl (by have := hin g hg; omega))
    have hO5 : Off b2 q.t P := Off.li hT2 _ (.inl hP3)
    have hO6 : ∀ g ∈ blkOf ta, Off b2 q.t g := fun g hg => Off.li hT2 _ (.inl (by have := hin g hg; omega))
    obtain ⟨T, hT⟩ : ∃ T, q.t = T := ⟨_, rfl⟩
    obtain ⟨QL, hQL⟩ : ∃ T, q.L = T := ⟨_, rfl⟩
    rw [hT] at hT2 hO5 hO6 hq3 ⊢
    rw [hQL] at hL2 hO3 hO4
    obtain ⟨n, hn'⟩ : ∃ n, T.length = n := ⟨_, rfl⟩
    rw [hn'] at hq3 ⊢
    have HN : Hid (T.length = n) := hn'
    clear hn'
    replace hL2 := hL2.mono (B' := B) (by omega)
    replace hT2 := hT2.mono (B' := 0) (Nat.zero_le _)
    go_wp2_with fail
    go_loopw [58] (fun iv wr => ∃ (j : Nat) (td : Option Addr) (tj : Nat), j ≤ n ∧ iv = .int .i64 j ∧ Blk P (unc cc (.slice td (Hs ++ (T.take j).map takeH).length tj)) 166 wr ∧ Lg Hp.vals 50 57 (P + 1) td tj (Hs ++ (T.take j).map takeH) wr ∧ Li Kt.vals B a2 QL wr ∧ Li Kt.vals 0 b2 T wr ∧ (∀ g ∈ blkOf td, Off a2 QL g) ∧ (∀ g ∈ blkOf td, Off b2 T g) ∧ Below P w wr ∧ P < wr.heap.size) (fun iv _ => n - (intOf iv).toNat)
    case atStart =>
     refine ⟨0, ta, tk, by omega, rfl, ?_, ?_, hL2, hT2, hO4, hO6, hB', bP'.lt⟩
     ·simpa using bP'
     ·simpa using hG'
    case round =>
     clear bP' hG' hL2 hT2 hO4 hO6 hB'
     obtain ⟨j, td, tj, hj, rfl, bP, hG, hL2, hT2, hO4, hO6, hB, hPr⟩ := hrel
     by_cases hjn : j < n
     ·have j0 : (j : Int) < (n : Int) := by omega
      have j1 : (0 : Int) ≤ (j : Int) := by omega
      obtain ⟨x, hk⟩ : ∃ k, T[j]? = some k := ⟨_, List.getElem?_eq_getElem (by rw [HN.out]; exact hjn)⟩
      obtain ⟨b, o, rfl, _, hbl, hr⟩ := hT2.at Kt.vals_length j x hk
      have hlen : (Hs ++ (T.take j).map takeH).length ≤ Hs.length + 3 := by simp; omega
      have HT : Hid (Hs ++ (T.take (j + 1)).map takeH = (Hs ++ (T.take j).map takeH) ++ [takeH x]) := by
       show _ = _
       rw [List.take_add_one, hk]
       simp
      have hb := below_box wr (.cells x.arr 53)
      have x0 := blk_new wr x.arr 53
      go_upto_region 8 with (first | refine load_range rfl 53 _ rfl (o := o + j * 38) x.vals hr rfl Tryz.underlying53 rfl sizeKt ?_ | refine alloc_zero zeroKt rfl rfl ?_ | refine store_new rfl 53 _ _ rfl (cells := x.arr) rfl rfl sizeKt rfl x.arr_one ?_)
      try simp only [Act.put, List.setIfInBounds_toArray, List.set_cons_zero, List.set_cons_succ]
      generalize wr.alloc (Obj.cells x.arr 53) = W5 at x0 hb ⊢
      replace bP := bP.below hb
      replace hG := hG.below hb
      replace hL2 := hL2.below hb
      replace hT2 := hT2.below hb
      replace hB := hB.trans (hb.mono (by omega))
      clear hr
      go_wp2_with (refine load_blk rfl 53 _ rfl x0 rfl Tryz.underlying53 rfl sizeKt ?_)
      have hin2 := hG.in
      refine (tell_ok P cc td tj _ x (by omega) _ bP hG).mono ?_
      rintro r w5 ⟨rfl, te, tz, h1, h2, h3, h4⟩
      rw [← HT.out] at h1 h2
      have hBe : Below P W5 w5 := h3.below (fun y hy => by
       rcases List.mem_cons.1 hy with rfl | hy
       ·exact Nat.le_refl _
       ·have := hin2 y hy; omega) (Nat.le_of_lt bP.lt)
      have hLe := hL2.off h3 (fun y hy => by
       rcases List.mem_cons.1 hy with rfl | hy
       ·exact hO3
       ·exact hO4 y hy)
      have hTe := hT2.off h3 (fun y hy => by
       rcases List.mem_cons.1 hy with rfl | hy
       ·exact hO5
       ·exact hO6 y hy)
      have hOa := Off.other hO4 hL2 (Nat.le_refl _) h4
      have hOb := Off.other hO6 hT2 (Nat.le_refl _) h4
      have hBf : Below P w w5 := hB.trans hBe
      have hPf := h1.lt
      clear bP hG hL2 hT2 hO4 hO6 hB h3 h4 hBe HT x0 hb
      go_wp2_with fail
      exact ⟨⟨j + 1, te, tz, by omega, by go_num, h1, h2, hLe, hTe, hOa, hOb, hBf, hPf⟩, by simp [intOf]; omega⟩
     ·obtain rfl : j = n := by omega
      rw [List.take_of_length_le (by rw [HN.out]; omega)] at bP hG
      clear HN hT2 hO6 hO5
      go_wp2_with fail
      go_end0
      refine ⟨rfl, Uv.sim (s := offS ⟨c, L, Hs⟩ p) ?_ HS, hB⟩
      rw [HF.out, hT, hQL]
      refine ⟨a2, k2, td, tj, ?_, hL2, hG, hO3, hO4⟩
      have e : unc ((c.wCount q.c).kp a2 QL.length k2) = unc cc := by rw [← hcc.out, hQL]
      show Blk P (unc ((c.wCount q.c).kp a2 QL.length k2) (.slice td (Hs ++ T.map takeH).length tj)) _ _
      rw [e]
      exact bP
end Go.Proofs.YthgfpdidilolgaaGreat
namespace Go.Proofs.YthgfpdidilolgaaGreat
set_option maxRecDepth 10000
set_option linter.unusedSimpArgs false
open Go.RowKit Go.Sort
end Go.Proofs.YthgfpdidilolgaaGreat
namespace Go.Proofs.YthgfpdidilolgaaGreat
set_option maxRecDepth 10000
open Go.RowKit Go.Sort
set_option linter.unusedVariables false
end Go.Proofs.YthgfpdidilolgaaGreat
namespace Go.Proofs.YthgfpdidilolgaaGreat
set_option maxRecDepth 10000
set_option linter.unusedSimpArgs false
open Go.RowKit Go.Sort
set_option linter.unusedVariables false
theorem ordP_cases (x y : Pe) : ordP x y = -1 ∨ ordP x y = 1 ∨ ordP x y = 0 := by
 unfold ordP
 rcases cmpN_cases y.inc x.inc with ⟨_, g⟩ | ⟨_, g⟩ | ⟨_, g⟩ <;> rcases cmpId_cases y.pr x.pr with ⟨_, h⟩ | ⟨_, h⟩ | ⟨_, h⟩ <;> rw [g, h] <;> decide
set_option maxHeartbeats 4000000 in
theorem update_ok (x : Pe) (p : Pk) (w : World) : Calls Tryz.prog 149 #[.agg x.arr, .agg (pkc p)] w fun e w' => e = .returned (.agg (updP x (told p)).arr) ∧ Below w.heap.size w w' := by
 obtain ⟨a0, a1, a2, hB⟩ := three_blk (T0 := 75) (T1 := 116) (T2 := 75) (C0 := x.arr) (C1 := pkc p) (C2 := Pe.zero.arr) (w := w) rfl
 obtain ⟨R, HR⟩ : ∃ R, Hid (updP x (told p) = R) := ⟨_, rfl⟩
 rw [HR.out]
 have h3 := ordP_cases x (told p)
 obtain ⟨k, hk⟩ : ∃ k, orI [cmpN (told p).inc x.inc, cmpId p.pr x.pr] = k := ⟨_, rfl⟩
 have hk2 : ordP x (told p) = k := hk
 rw [hk2] at h3
 have p0 := cmpN_ok (told p).inc x.inc
 have p1 := cmp_ok p.pr x.pr
 have pt := together_ok x (told p)
 go_enter Tryz.func149, Tryz.ntmps149
 go_upto_region 1 with (refine alloc_zero zeroPe rfl rfl ?_)
 try simp only [Act.put, List.setIfInBounds_toArray, List.set_cons_zero, List.set_cons_succ]
 try simp only [alloc_size]
 generalize ((w.alloc (Obj.cells x.arr 75)).alloc (Obj.cells (pkc p) 116)).alloc (Obj.cells Pe.zero.arr 75) = W at a0 a1 a2 hB ⊢
 have c1 := a1.cell 1 (.int .u32 (p.n 1 : Int)) rfl
 have c2 := a1.cell 32 (.bool p.r) rfl
 have hb := below_box W (.cells (told p).arr 75)
 have a3 := blk_new W (told p).arr 75
 go_upto_region 2 with (first | refine load_part rfl 51 _ rfl (o := 2) a1 rfl p.conf.vals p.p_conf Tryz.underlying51 rfl sizeIdn ?_ | refine load_part rfl 51 _ rfl (o := 21) a1 rfl p.pr.vals p.p_pr Tryz.underlying51 rfl sizeIdn ?_ | refine load_part rfl 60 _ rfl (o := 13) a1 rfl (row8 p.count) p.p_count Tryz.underlying60 rfl sizeCt ?_ | (refine build_as rfl 75 #[(0, .tmp 7), (1, .tmp 9), (2, .tmp 11), (3, .tmp 13), (4, .tmp 15)] rfl (C := (told p).arr) ?_ ?_; kernel_rfl) | refine alloc_zero zeroPe rfl rfl ?_ | refine store_new rfl 75 _ _ rfl (cells := (told p).arr) rfl rfl sizePe rfl (Pe.arr_one _) ?_)
 try simp only [Act.put, List.setIfInBounds_toArray, List.set_cons_zero, List.set_cons_succ]
 generalize W.alloc (Obj.cells (told p).arr 75) = W2 at a3 hb ⊢
 replace a0 := a0.below hb
 replace a1 := a1.below hb
 replace a2 := a2.below hb
 replace hB := hB.trans (hb.mono hB.size)
 clear hb 
 generalize W.heap.size = V at a3 ⊢
 clear c1 c2 a1
 have hC0 := hB.drew
 have q0 := a2.drew
 refine wp_region_held_drew (S := fun w' => Blk w.heap.size x.arr 75 w' ∧ Blk V (told p).arr 75 w') (by kernel_rfl) ⟨a0.drew, a3.drew⟩ (fun hHeld => ?_)
 refine tkQ 0 hHeld ?_
 try simp only [yy]
 refine tkH 1 (v := ?v2) rfl (by kernel_rfl) (fun _ _ _ h => h) (Or.inl ⟨by rfl, ?hy2⟩) hHeld ?_
 case hy2 => (intro w hSw; have hc := hSw.2.cell 0 (.int .u32 (p.n 1 : Int)) rfl; clear hSw; go_simp; try with_reducible rfl)
 try simp only [yy]
 refine tkQ 2 hHeld ?_
 try simp only [yy]
 refine tkH 3 (v := ?v4) rfl (by kernel_rfl) (fun _ _ _ h => h) (Or.inl ⟨by rfl, ?hy4⟩) hHeld ?_
 case hy4 => (intro w hSw; have hc := hSw.1.cell 0 (.int .u32 (x.inc : Int)) rfl; clear hSw; go_simp; try with_reducible rfl)
 try simp only [yy]
 refine tkQ 5 hHeld ?_
 try simp only [yy]
 refine' tkH 6 (v := _) rfl (by kernel_rfl) (fun _ _ _ h => h) (yieldsIf_load_mid (by rfl) _ _ rfl V 4 rfl p.pr.vals _ ?hS6 Tryz.underlying51 rfl sizeIdn) hHeld ?_
 case hS6 => exact fun w h => h.2.range 4 p.pr.vals (told p).p_pr
 try simp only [yy]
 refine tkQ 7 hHeld ?_
 try simp only [yy]
 refine' tkH 8 (v := _) rfl (by kernel_rfl) (fun _ _ _ h => h) (yieldsIf_load_mid (by rfl) _ _ rfl w.heap.size 4 rfl x.pr.vals _ ?hS8 Tryz.underlying51 rfl sizeIdn) hHeld ?_
 case hS8 => exact fun w h => h.1.range 4 x.pr.vals x.p_pr
 try simp only [yy]
 refine rd1 4 (fun K hK => ?_)
 go_simp
 go_wp2_with (refine (p0 _).mono ?_; rintro r w' ⟨rfl, rfl⟩)
 refine hK.out _ _ hHeld (fun hHeld => ?_)
 clear hK K
 refine rd1 9 (fun K hK => ?_)
 go_simp
 go_wp2_with (refine (p1 _).mono ?_; rintro r u1 ⟨rfl, hb⟩)
 have q1 := q0.below hb
 have hC1 := hC0.trans (hb.mono hC0.size)
 refine hK.out _ _ ⟨hHeld.1.below hb, hHeld.2.below hb⟩ (fun hHeld => ?_)
 clear hK K hb q0 hC0
 refine rd1 10 (fun K hK => ?_)
 rw [if_pos (by rfl)]
 refine wp_ints2 _ _ rfl (cmpN (told p).inc x.inc) (cmpId p.pr x.pr) rfl rfl ?_
 intro gp u2 g2 hb gl
 have gg := Nat.le_trans hC1.size gl
 have q2 := q1.below hb
 have hC2 := hC1.trans (hb.mono hC1.size)
 refine hK.out _ _ ⟨hHeld.1.below hb, hHeld.2.below hb⟩ (fun hHeld => ?_)
 clear hK K hb q1 hC1
 try simp only [yy]
 refine rd1 11 (fun K hK => ?_)
 go_simp
 go_wp2_with (refine (or2_ok (cmpN (told p).inc x.inc) (cmpId p.pr x.pr) g2).mono ?_; rintro r w' ⟨rfl, rfl⟩)
 refine hK.out _ _ hHeld (fun hHeld => ?_)
 clear hK K
 refine wpAnyH_done (by kernel_rfl) ?_ _
 have a0 := hHeld.1
 have a3 := hHeld.2
 have a2 := q2
 have hB := hC2
 clear hHeld q2 hC2 g2 gl p0 p1
 rw [hk] at *
 clear hk
 rcases h3 with rfl | rfl | rfl
 ·obtain rfl : R = x := by rw [← HR.out]; simp [updP, hk2]
  clear HR hk2 pt
  go_wp2_with (first | refine load_blk rfl 75 _ rfl a0 rfl Tryz.underlying75 rfl sizePe ?_ | (refine store_part rfl 75 _ _ rfl (off := 0) (cells := R.arr) a2 rfl rfl sizePe (Nat.le_refl _) (Pe.arr_one _) ?_; intro w9 b9 k9; rw [Pe.all] at b9; have hB9 : Below w.heap.size w w9 := hB.trans (k9.below1 (by omega) hB.size)))
  exact bodyPost_ret (w := w9) (v := .agg R.arr) (ret_one rfl rfl b9 Tryz.underlying75 rfl sizePe) rfl ⟨rfl, hB9⟩
 ·have e : told p = R := by rw [← HR.out]; simp [updP, hk2]
  rw [e] at a3
  clear HR hk2 pt e
  go_wp2_with (first | refine load_blk rfl 75 _ rfl a3 rfl Tryz.underlying75 rfl sizePe ?_ | (refine store_part rfl 75 _ _ rfl (off := 0) (cells := R.arr) a2 rfl rfl sizePe (Nat.le_refl _) (Pe.arr_one _) ?_; intro w9 b9 k9; rw [Pe.all] at b9; have hB9 : Below w.heap.size w w9 := hB.trans (k9.below1 (by omega) hB.size)))
  exact bodyPost_ret (w := w9) (v := .agg R.arr) (ret_one rfl rfl b9 Tryz.underlying75 rfl sizePe) rfl ⟨rfl, hB9⟩
 ·have e : togP x (told p) = R := by rw [← HR.out]; simp [updP, hk2]
  rw [e] at pt
  clear HR hk2 e
  go_wp2_with (first | refine load_blk rfl 75 _ rfl a0 rfl Tryz.underlying75 rfl sizePe ?_ | refine load_blk rfl 75 _ rfl a3 rfl Tryz.underlying75 rfl sizePe ?_)
  refine (pt _).mono ?_
  rintro r w5 ⟨rfl, hb⟩
  replace a2 := a2.below hb
  replace hB := hB.trans (hb.mono hB.size)
  clear hb pt
  go_wp2_with ((refine store_part rfl 75 _ _ rfl (off := 0) (cells := R.arr) a2 rfl rfl sizePe (Nat.le_refl _) (Pe.arr_one _) ?_; intro w9 b9 k9; rw [Pe.all] at b9; have hB9 : Below w.heap.size w w9 := hB.trans (k9.below1 (by omega) hB.size)))
  exact bodyPost_ret (w := w9) (v := .agg R.arr) (ret_one rfl rfl b9 Tryz.underlying75 rfl sizePe) rfl ⟨rfl, hB9⟩
set_option maxHeartbeats 4000000 in
theorem adopt_ok (a : Idn) (i : Int) (n : Nat) (p : Pk) (w : World) : Calls Tryz.prog 150 #[.agg a.arr, .int .i64 i, .int .u32 (n : Int), .agg (pkc p)] w fun e w' => e = .returned (.bool (adoptB a i n p)) ∧ Below w.heap.size w w' := by
 obtain ⟨a0, a1, hB⟩ := two_blk (T0 := 51) (T1 := 116) (C0 := a.arr) (C1 := pkc p) (w := w) rfl
 obtain ⟨R, HR⟩ : ∃ R, Hid (adoptB a i n p = R) := ⟨_, rfl⟩
 rw [HR.out]
 have pc := cmp_ok p.pr a
 have ph := has_ok p.want i n
 generalize hk : cmpId p.pr a = k at *
 go_enter Tryz.func150, Tryz.ntmps150
 go_upto_region 1 with fail
 generalize (w.alloc (Obj.cells a.arr 51)).alloc (Obj.cells (pkc p) 116) = W at a0 a1 hB ⊢
 go_wp2_with (first | refine load_part rfl 51 _ rfl (o := 21) a1 rfl p.pr.vals p.p_pr Tryz.underlying51 rfl sizeIdn ?_ | refine load_blk rfl 51 _ rfl a0 rfl Tryz.underlying51 rfl sizeIdn ?_)
 refine (pc _).mono ?_
 rintro r w1 ⟨rfl, hb⟩
 replace a1 := a1.below hb
 replace hB := hB.trans (hb.mono hB.size)
 clear hb pc a0
 by_cases h : 0 < k
 ·have e : hasM p.want i n = R := by rw [← HR.out]; simp [adoptB, hk, h]
  rw [e] at ph
  clear HR hk e
  go_wp2_with (refine load_wpart rfl 55 _ rfl (o := 24) a1 rfl (row8 p.want) p.p_want Tryz.underlying55 rfl sizeMb ?_)
  refine (ph _).mono ?_
  rintro r w2 ⟨rfl, hb⟩
  replace hB := hB.trans (hb.mono hB.size)
  clear hb ph a1
  go_wp2_with fail
  go_ret
  exact ⟨rfl, hB⟩
 ·obtain rfl : R = false := by rw [← HR.out]; simp [adoptB, hk, h]
  clear HR hk ph
  go_wp2_with fail
  go_ret
  exact ⟨rfl, hB⟩
end Go.Proofs.YthgfpdidilolgaaGreat
