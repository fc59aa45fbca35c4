/-
  Of the texts beneath these laws, in their order: CeC.
  Each theorem says its own conditions.
-/
import Derived.Test.YthgfpdidilolgaaGreatZ19
import Derived.Test.YthgfpdidilolgaaGreatZ22
namespace Go.Proofs.YthgfpdidilolgaaGreat
set_option maxRecDepth 10000
set_option linter.unusedSimpArgs false
open Go.RowKit Go.Sort
set_option linter.unusedVariables false
set_option maxHeartbeats 4000000 in
theorem upropose_ok (P : Nat) (c : Co) (v : Value) (s : Nat) (hs : s < 8) (hcs : c.self = (s : Int)) (hn : c.beat.now < 4294967296) (he : c.epoch < 4294967296) (w : World) (b0 : Blk P (unc c v) 166 w) :
  Calls Tryz.prog 101 #[.pointer (some ⟨P, 0, none⟩)] w fun e w' => e = .returned (.tuple #[]) ∧ Blk P (unc (proposeC c (reachC c)) v) 166 w' ∧ Kp [P] w w' := by
 have hP := b0.lt
 have pr := reach_ok c.beat c.self c.own (waitN c) hn
 obtain ⟨m, Hm⟩ : ∃ m, Hid (reachC c = m) := ⟨_, rfl⟩
 have Hr : Hid (rchB c.beat c.self c.own (waitN c) = m) := Hm
 rw [Hr.out, hcs] at pr
 have hw0 : IntKind.u32.wrap c.wait = ((waitN c : Nat) : Int) := by rw [IntKind.wrap_u32, waitN]; omega
 have pp := propose_ok c s hs hcs he m
 obtain ⟨U1, hU1⟩ : ∃ t, unsB c m = t := ⟨_, rfl⟩
 obtain ⟨U2, hU2⟩ : ∃ t, proB c m = t := ⟨_, rfl⟩
 obtain ⟨X, hX⟩ : ∃ t, propI c m = t := ⟨_, rfl⟩
 have pu := unsettled_ok P c v s hs hcs m
 rw [hU1] at pu
 rw [hU2, hX] at pp
 rw [Hm.out]
 obtain ⟨Z, hZ⟩ : ∃ Z, Hid (proposeC c m = Z) := ⟨_, rfl⟩
 rw [hZ.out]
 have HZ : Hid (Z = if (U1 && U2) = true then promC (c.wEpoch X.e) X m else c) := by show Z = _; rw [← hZ.out, proposeC, hU1, hU2, hX]
 clear hU1 hU2 hX Hr Hm he hn hZ
 go_enter Tryz.func101, Tryz.ntmps101
 go_upto_region 0 with fail
 have hC0 : Below w.heap.size w w.drew := (Below.refl _ _).drew
 go_cut [2] from 5 to 26 (fun pv wx => ∃ p, pv = .pointer (some ⟨p, 0, none⟩) ∧ P < p ∧ Blk p (mbc m) 55 wx ∧ Blk P (unc c v) 166 wx ∧ Below w.heap.size w wx)
 case first =>
  refine wp_region_held_drew (S := fun w' => Blk P (unc c v) 166 w') (by kernel_rfl) b0.drew (fun hHeld => ?_)
  refine tkH 0 (v := ?v134) rfl (by kernel_rfl) (fun _ _ _ h => h) (Or.inl ⟨by rfl, ?hy134⟩) hHeld ?_
  case hy134 => (intro w hSw; clear hSw; go_simp; try with_reducible rfl)
  try simp only [yA, yB, yC, Act.put, yD, yE, yF]
  refine tkH 1 (v := ?v135) rfl (by kernel_rfl) (fun _ _ _ h => h) (Or.inl ⟨by rfl, ?hy135⟩) hHeld ?_
  case hy135 => (intro w hSw; clear hSw; go_simp; try with_reducible rfl)
  try simp only [yA, yB, yC, Act.put, yD, yE, yF]
  refine tkH 2 (v := ?v136) rfl (by kernel_rfl) (fun _ _ _ h => h) (Or.inl ⟨by rfl, ?hy136⟩) hHeld ?_
  case hy136 => (intro w hSw; clear hSw; go_simp; try with_reducible rfl)
  try simp only [yA, yB, yC, Act.put, yD, yE, yF]
  refine tkH 3 (v := ?v137) rfl (by kernel_rfl) (fun _ _ _ h => h) (Or.inl ⟨by rfl, ?hy137⟩) hHeld ?_
  case hy137 => (intro w hSw; clear hSw; go_simp; try with_reducible rfl)
  try simp only [yA, yB, yC, Act.put, yD, yE, yF]
  refine' tkH 4 (v := _) rfl (by kernel_rfl) (fun _ _ _ h => h) (yieldsIf_load_mid (by rfl) _ _ rfl P 3 rfl c.beat.vals _ ?hS138 Tryz.underlying72 rfl sizeBt) hHeld ?_
  case hS138 => exact fun w h => h.range 3 _ (un_beat _ _)
  try simp only [yA, yB, yC, Act.put, yD, yE, yF]
  refine tkH 5 (v := ?v139) rfl (by kernel_rfl) (fun _ _ _ h => h) (Or.inl ⟨by rfl, ?hy139⟩) hHeld ?_
  case hy139 => (intro w hSw; clear hSw; go_simp; try with_reducible rfl)
  try simp only [yA, yB, yC, Act.put, yD, yE, yF]
  refine tkH 6 (v := ?v140) rfl (by kernel_rfl) (fun _ _ _ h => h) (Or.inl ⟨by rfl, ?hy140⟩) hHeld ?_
  case hy140 => (intro w hSw; clear hSw; go_simp; try with_reducible rfl)
  try simp only [yA, yB, yC, Act.put, yD, yE, yF]
  refine tkH 7 (v := ?v141) rfl (by kernel_rfl) (fun _ _ _ h => h) (Or.inl ⟨by rfl, ?hy141⟩) hHeld ?_
  case hy141 => (intro w hSw; clear hSw; go_simp; try with_reducible rfl)
  try simp only [yA, yB, yC, Act.put, yD, yE, yF]
  refine tkH 8 (v := ?v142) rfl (by kernel_rfl) (fun _ _ _ h => h) (Or.inl ⟨by rfl, ?hy142⟩) hHeld ?_
  case hy142 => (intro w hSw; clear hSw; go_simp; try with_reducible rfl)
  try simp only [yA, yB, yC, Act.put, yD, yE, yF]
  refine tkH 9 (v := ?v143) rfl (by kernel_rfl) (fun _ _ _ h => h) (Or.inl ⟨by rfl, ?hy143⟩) hHeld ?_
  case hy143 => (intro w hSw; have hc : w.cell? ⟨P, 0, none⟩ = some (.int .i64 c.self) := hSw.cell 0 (.int .i64 c.self) rfl; clear hSw; go_simp; try with_reducible rfl)
  try simp only [yA, yB, yC, Act.put, yD, yE, yF]
  refine tkH 10 (v := ?v144) rfl (by kernel_rfl) (fun _ _ _ h => h) (Or.inl ⟨by rfl, ?hy144⟩) hHeld ?_
  case hy144 => (intro w hSw; clear hSw; go_simp; try with_reducible rfl)
  try simp only [yA, yB, yC, Act.put, yD, yE, yF]
  refine tkH 11 (v := ?v145) rfl (by kernel_rfl) (fun _ _ _ h => h) (Or.inl ⟨by rfl, ?hy145⟩) hHeld ?_
  case hy145 => (intro w hSw; clear hSw; go_simp; try with_reducible rfl)
  try simp only [yA, yB, yC, Act.put, yD, yE, yF]
  refine tkH 12 (v := ?v146) rfl (by kernel_rfl) (fun _ _ _ h => h) (Or.inl ⟨by rfl, ?hy146⟩) hHeld ?_
  case hy146 => (intro w hSw; clear hSw; go_simp; try with_reducible rfl)
  try simp only [yA, yB, yC, Act.put, yD, yE, yF]
  refine tkH 13 (v := ?v147) rfl (by kernel_rfl) (fun _ _ _ h => h) (Or.inl ⟨by rfl, ?hy147⟩) hHeld ?_
  case hy147 => (intro w hSw; clear hSw; go_simp; try with_reducible rfl)
  try simp only [yA, yB, yC, Act.put, yD, yE, yF]
  refine tkH 14 (v := ?v148) rfl (by kernel_rfl) (fun _ _ _ h => h) (Or.inl ⟨by rfl, ?hy148⟩) hHeld ?_
  case hy148 => (intro w hSw; have hc : w.cell? ⟨P, 2, none⟩ = some (.int .u32 (c.own : Int)) := hSw.cell 2 (.int .u32 (c.own : Int)) rfl; clear hSw; go_simp; try with_reducible rfl)
  try simp only [yA, yB, yC, Act.put, yD, yE, yF]
  refine tkH 15 (v := ?v149) rfl (by kernel_rfl) (fun _ _ _ h => h) (Or.inl ⟨by rfl, ?hy149⟩) hHeld ?_
  case hy149 => (intro w hSw; clear hSw; go_simp; try with_reducible rfl)
  try simp only [yA, yB, yC, Act.put, yD, yE, yF]
  refine tkH 16 (v := ?v150) rfl (by kernel_rfl) (fun _ _ _ h => h) (Or.inl ⟨by rfl, ?hy150⟩) hHeld ?_
  case hy150 => (intro w hSw; clear hSw; go_simp; try with_reducible rfl)
  try simp only [yA, yB, yC, Act.put, yD, yE, yF]
  refine tkH 17 (v := ?v151) rfl (by kernel_rfl) (fun _ _ _ h => h) (Or.inl ⟨by rfl, ?hy151⟩) hHeld ?_
  case hy151 => (intro w hSw; clear hSw; go_simp; try with_reducible rfl)
  try simp only [yA, yB, yC, Act.put, yD, yE, yF]
  refine tkH 18 (v := ?v152) rfl (by kernel_rfl) (fun _ _ _ h => h) (Or.inl ⟨by rfl, ?hy152⟩) hHeld ?_
  case hy152 => (intro w hSw; clear hSw; go_simp; try with_reducible rfl)
  try simp only [yA, yB, yC, Act.put, yD, yE, yF]
  refine tkH 19 (v := ?v153) rfl (by kernel_rfl) (fun _ _ _ h => h) (Or.inl ⟨by rfl, ?hy153⟩) hHeld ?_
  case hy153 => (intro w hSw; have hc : w.cell? ⟨P, 1, none⟩ = some (.int .i64 c.wait) := hSw.cell 1 (.int .i64 c.wait) rfl; clear hSw; go_simp; try with_reducible rfl)
  try simp only [yA, yB, yC, Act.put, yD, yE, yF]
  refine tkH 20 (v := ?v154) rfl (by kernel_rfl) (fun _ _ _ h => h) (Or.inl ⟨by rfl, ?hy154⟩) hHeld ?_
  case hy154 => (intro w hSw; clear hSw; go_simp; try with_reducible rfl)
  try simp only [yA, yB, yC, Act.put, yD, yE, yF]
  refine wpAnyH_ready (rs := [21, 22]) (by kernel_rfl) (by simp) ?_
  refine AllReadyH.cons rfl (fun K hK => ?_) (AllReadyH.cons rfl (fun K hK => ?_) (AllReadyH.nil))
  ·go_simp
   go_wp2_with (refine (pr _).mono ?_; rintro r u1 ⟨rfl, hb⟩)
   have hC1 := hC0.trans (hb.mono hC0.size)
   refine hK.out _ _ (hHeld.below hb) (fun hHeld => ?_)
   clear hK K hb hC0
   refine wpAnyH_ready (rs := [22]) (by kernel_rfl) (by simp) ?_
   refine AllReadyH.cons rfl (fun K hK => ?_) (AllReadyH.nil)
   rw [if_pos (by rfl)]
   refine wp_alloc_any zeroMb rfl ?_
   intro xp u2 x2 hb xl xt
   have xg := Nat.le_trans hC1.size xl
   have hC2 := hC1.trans (hb.mono hC1.size)
   refine hK.out _ _ (hHeld.below hb) (fun hHeld => ?_)
   clear hK K hb hC1
   try simp only [yA, yB, yC, Act.put, yD, yE, yF]
   refine wpAnyH_ready (rs := [23]) (by kernel_rfl) (by simp) ?_
   refine AllReadyH.cons rfl (fun K hK => ?_) (AllReadyH.nil)
   rw [if_pos (by rfl)]
   refine wp_store_all 55 _ _ rfl (cells := (mbc m)) x2 rfl rfl sizeMb rfl (mbc_one _) ?_
   intro u3 hn hk
   have hC3 := hC2.trans (hk.below (by simp <;> omega) hC2.size)
   have x3 := hn
   refine hK.out _ _ (hHeld.kp hk (by simp <;> omega)) (fun hHeld => ?_)
   clear hK K hk hn hC2 x2
   try simp only [yA, yB, yC, Act.put, yD, yE, yF]
   refine wpAnyH_done (by kernel_rfl) ?_ _
   go_wp2_with fail
   go_meet
   exact ⟨xp, rfl, by omega, x3, hHeld, hC3⟩
  ·rw [if_pos (by rfl)]
   refine wp_alloc_any zeroMb rfl ?_
   intro xp u4 x1 hb xl xt
   have xg := Nat.le_trans hC0.size xl
   have hC1 := hC0.trans (hb.mono hC0.size)
   refine hK.out _ _ (hHeld.below hb) (fun hHeld => ?_)
   clear hK K hb hC0
   try simp only [yA, yB, yC, Act.put, yD, yE, yF]
   refine wpAnyH_ready (rs := [21]) (by kernel_rfl) (by simp) ?_
   refine AllReadyH.cons rfl (fun K hK => ?_) (AllReadyH.nil)
   go_simp
   go_wp2_with (refine (pr _).mono ?_; rintro r u5 ⟨rfl, hb⟩)
   have hC2 := hC1.trans (hb.mono hC1.size)
   have x2 := x1.below hb
   refine hK.out _ _ (hHeld.below hb) (fun hHeld => ?_)
   clear hK K hb hC1 x1
   refine wpAnyH_ready (rs := [23]) (by kernel_rfl) (by simp) ?_
   refine AllReadyH.cons rfl (fun K hK => ?_) (AllReadyH.nil)
   rw [if_pos (by rfl)]
   refine wp_store_all 55 _ _ rfl (cells := (mbc m)) x2 rfl rfl sizeMb rfl (mbc_one _) ?_
   intro u6 hn hk
   have hC3 := hC2.trans (hk.below (by simp <;> omega) hC2.size)
   have x3 := hn
   refine hK.out _ _ (hHeld.kp hk (by simp <;> omega)) (fun hHeld => ?_)
   clear hK K hk hn hC2 x2
   try simp only [yA, yB, yC, Act.put, yD, yE, yF]
   refine wpAnyH_done (by kernel_rfl) ?_ _
   go_wp2_with fail
   go_meet
   exact ⟨xp, rfl, by omega, x3, hHeld, hC3⟩
 case rest =>
  obtain ⟨p, rfl, hPp, x0, bP, hB⟩ := hcut
  clear b0 hC0 pr
  rename World => w1
  go_wp2_with (refine load_blk rfl 55 _ rfl x0 rfl Tryz.underlying55 rfl sizeMb ?_)
  refine (pu _ bP).mono ?_
  rintro r w2 ⟨rfl, hb⟩
  replace x0 := x0.below hb
  replace bP := bP.below hb
  replace hB := hB.trans (hb.mono hB.size)
  clear hb pu
  cases U1 with
  | false =>
   obtain rfl : Z = c := by rw [HZ.out]; rfl
   go_wp2_with fail
   (try simp only [Exit.inBlock, Exit.then])
   refine bodyPost_ret (results_none rfl _ _ _) rfl ?_
   exact ⟨rfl, bP, Kp.of_below hB⟩
  | true =>
   go_upto_region 2 with fail
   have hC0 : Below w2.heap.size w2 w2.drew := (Below.refl _ _).drew
   have hxl := x0.lt
   go_cut [3, 4] from 32 to 39 (fun pv ov wx => ∃ q, pv = .pointer (some ⟨q, 0, none⟩) ∧ P < q ∧ ov = .bool U2 ∧ Blk q X.arr 51 wx ∧ Blk P (unc c v) 166 wx ∧ Blk p (mbc m) 55 wx ∧ Below w2.heap.size w2 wx)
   case first =>
    refine wp_region_held_drew (S := fun w' => Blk P (unc c v) 166 w' ∧ Blk p (mbc m) 55 w') (by kernel_rfl) ⟨bP.drew, x0.drew⟩ (fun hHeld => ?_)
    refine tkH 0 (v := ?v155) rfl (by kernel_rfl) (fun _ _ _ h => h) (Or.inl ⟨by rfl, ?hy155⟩) hHeld ?_
    case hy155 => (intro w hSw; clear hSw; go_simp; try with_reducible rfl)
    try simp only [yA, yB, yC, Act.put, yD, yE, yF]
    refine tkH 1 (v := ?v156) rfl (by kernel_rfl) (fun _ _ _ h => h) (Or.inl ⟨by rfl, ?hy156⟩) hHeld ?_
    case hy156 => (intro w hSw; clear hSw; go_simp; try with_reducible rfl)
    try simp only [yA, yB, yC, Act.put, yD, yE, yF]
    refine tkH 2 (v := ?v157) rfl (by kernel_rfl) (fun _ _ _ h => h) (Or.inl ⟨by rfl, ?hy157⟩) hHeld ?_
    case hy157 => (intro w hSw; clear hSw; go_simp; try with_reducible rfl)
    try simp only [yA, yB, yC, Act.put, yD, yE, yF]
    refine' tkH 3 (v := _) rfl (by kernel_rfl) (fun _ _ _ h => h) (yieldsIf_load_mid (by rfl) _ _ rfl P 0 rfl (col c) _ ?hS158 Tryz.underlying78 rfl sizeCo) hHeld ?_
    case hS158 => exact fun w h => h.1.range 0 _ (unc_core _ _)
    try simp only [yA, yB, yC, Act.put, yD, yE, yF]
    refine' tkH 4 (v := _) rfl (by kernel_rfl) (fun _ _ _ h => h) (yieldsIf_load_mid (by rfl) _ _ rfl p 0 rfl (row8 m) _ ?hS159 Tryz.underlying55 rfl sizeMb) hHeld ?_
    case hS159 => exact fun w h => h.2.whole
    try simp only [yA, yB, yC, Act.put, yD, yE, yF]
    refine wpAnyH_ready (rs := [5, 9]) (by kernel_rfl) (by simp) ?_
    refine AllReadyH.cons rfl (fun K hK => ?_) (AllReadyH.cons rfl (fun K hK => ?_) (AllReadyH.nil))
    ·go_simp
     go_wp2_with (refine (pp _).mono ?_; rintro r u1 ⟨rfl, hb⟩)
     have hC1 := hC0.trans (hb.mono hC0.size)
     refine hK.out _ _ ⟨hHeld.1.below hb, hHeld.2.below hb⟩ (fun hHeld => ?_)
     clear hK K hb hC0
     refine tkH 6 (v := ?v160) rfl (by kernel_rfl) (fun _ _ _ h => h) (Or.inl ⟨by rfl, ?hy160⟩) hHeld ?_
     case hy160 => (intro w hSw; clear hSw; go_simp; try with_reducible rfl)
     try simp only [yA, yB, yC, Act.put, yD, yE, yF]
     refine tkH 7 (v := ?v161) rfl (by kernel_rfl) (fun _ _ _ h => h) (Or.inl ⟨by rfl, ?hy161⟩) hHeld ?_
     case hy161 => (intro w hSw; clear hSw; go_simp; try with_reducible rfl)
     try simp only [yA, yB, yC, Act.put, yD, yE, yF]
     refine tkH 8 (v := ?v162) rfl (by kernel_rfl) (fun _ _ _ h => h) (Or.inl ⟨by rfl, ?hy162⟩) hHeld ?_
     case hy162 => (intro w hSw; clear hSw; go_simp; try with_reducible rfl)
     try simp only [yA, yB, yC, Act.put, yD, yE, yF]
     refine wpAnyH_ready (rs := [9]) (by kernel_rfl) (by simp) ?_
     refine AllReadyH.cons rfl (fun K hK => ?_) (AllReadyH.nil)
     rw [if_pos (by rfl)]
     refine wp_alloc_any zeroIdn rfl ?_
     intro xp u2 x2 hb xl xt
     have xg := Nat.le_trans hC1.size xl
     have hC2 := hC1.trans (hb.mono hC1.size)
     refine hK.out _ _ ⟨hHeld.1.below hb, hHeld.2.below hb⟩ (fun hHeld => ?_)
     clear hK K hb hC1
     try simp only [yA, yB, yC, Act.put, yD, yE, yF]
     refine wpAnyH_ready (rs := [10]) (by kernel_rfl) (by simp) ?_
     refine AllReadyH.cons rfl (fun K hK => ?_) (AllReadyH.nil)
     rw [if_pos (by rfl)]
     refine wp_store_all 51 _ _ rfl (cells := X.arr) x2 rfl rfl sizeIdn rfl X.arr_one ?_
     intro u3 hn hk
     have hC3 := hC2.trans (hk.below (by simp <;> omega) hC2.size)
     have x3 := hn
     refine hK.out _ _ ⟨hHeld.1.kp hk (by simp <;> omega), hHeld.2.kp hk (by simp <;> omega)⟩ (fun hHeld => ?_)
     clear hK K hk hn hC2 x2
     try simp only [yA, yB, yC, Act.put, yD, yE, yF]
     refine tkH 11 (v := ?v163) rfl (by kernel_rfl) (fun _ _ _ h => h) (Or.inl ⟨by rfl, ?hy163⟩) hHeld ?_
     case hy163 => (intro w hSw; clear hSw; go_simp; try with_reducible rfl)
     try simp only [yA, yB, yC, Act.put, yD, yE, yF]
     refine wpAnyH_done (by kernel_rfl) ?_ _
     go_wp2_with fail
     go_meet
     exact ⟨xp, rfl, by omega, rfl, x3, hHeld.1, hHeld.2, hC3⟩
    ·rw [if_pos (by rfl)]
     refine wp_alloc_any zeroIdn rfl ?_
     intro xp u4 x1 hb xl xt
     have xg := Nat.le_trans hC0.size xl
     have hC1 := hC0.trans (hb.mono hC0.size)
     refine hK.out _ _ ⟨hHeld.1.below hb, hHeld.2.below hb⟩ (fun hHeld => ?_)
     clear hK K hb hC0
     try simp only [yA, yB, yC, Act.put, yD, yE, yF]
     refine wpAnyH_ready (rs := [5]) (by kernel_rfl) (by simp) ?_
     refine AllReadyH.cons rfl (fun K hK => ?_) (AllReadyH.nil)
     go_simp
     go_wp2_with (refine (pp _).mono ?_; rintro r u5 ⟨rfl, hb⟩)
     have hC2 := hC1.trans (hb.mono hC1.size)
     have x2 := x1.below hb
     refine hK.out _ _ ⟨hHeld.1.below hb, hHeld.2.below hb⟩ (fun hHeld => ?_)
     clear hK K hb hC1 x1
     refine tkH 6 (v := ?v164) rfl (by kernel_rfl) (fun _ _ _ h => h) (Or.inl ⟨by rfl, ?hy164⟩) hHeld ?_
     case hy164 => (intro w hSw; clear hSw; go_simp; try with_reducible rfl)
     try simp only [yA, yB, yC, Act.put, yD, yE, yF]
     refine tkH 7 (v := ?v165) rfl (by kernel_rfl) (fun _ _ _ h => h) (Or.inl ⟨by rfl, ?hy165⟩) hHeld ?_
     case hy165 => (intro w hSw; clear hSw; go_simp; try with_reducible rfl)
     try simp only [yA, yB, yC, Act.put, yD, yE, yF]
     refine tkH 8 (v := ?v166) rfl (by kernel_rfl) (fun _ _ _ h => h) (Or.inl ⟨by rfl, ?hy166⟩) hHeld ?_
     case hy166 => (intro w hSw; clear hSw; go_simp; try with_reducible rfl)
     try simp only [yA, yB, yC, Act.put, yD, yE, yF]
     refine wpAnyH_ready (rs := [10]) (by kernel_rfl) (by simp) ?_
     refine AllReadyH.cons rfl (fun K hK => ?_) (AllReadyH.nil)
     rw [if_pos (by rfl)]
     refine wp_store_all 51 _ _ rfl (cells := X.arr) x2 rfl rfl sizeIdn rfl X.arr_one ?_
     intro u6 hn hk
     have hC3 := hC2.trans (hk.below (by simp <;> omega) hC2.size)
     have x3 := hn
     refine hK.out _ _ ⟨hHeld.1.kp hk (by simp <;> omega), hHeld.2.kp hk (by simp <;> omega)⟩ (fun hHeld => ?_)
     clear hK K hk hn hC2 x2
     try simp only [yA, yB, yC, Act.put, yD, yE, yF]
     refine tkH 11 (v := ?v167) rfl (by kernel_rfl) (fun _ _ _ h => h) (Or.inl ⟨by rfl, ?hy167⟩) hHeld ?_
     case hy167 => (intro w hSw; clear hSw; go_simp; try with_reducible rfl)
     try simp only [yA, yB, yC, Act.put, yD, yE, yF]
     refine wpAnyH_done (by kernel_rfl) ?_ _
     go_wp2_with fail
     go_meet
     exact ⟨xp, rfl, by omega, rfl, x3, hHeld.1, hHeld.2, hC3⟩
   case rest =>
    obtain ⟨q, rfl, hPq, rfl, y0, bP', x0', hb⟩ := hcut
    clear bP x0 hC0 pp
    rename World => w3
    replace hB := hB.trans (hb.mono hB.size)
    clear hb
    cases U2 with
    | false =>
     obtain rfl : Z = c := by rw [HZ.out]; rfl
     go_wp2_with fail
     go_end0
     exact ⟨rfl, bP', Kp.of_below hB⟩
    | true =>
     have hq := y0.lt
     have c0 := y0.cell 0 (.int .u32 (X.e : Int)) rfl
     have kB : Kp [P] w w3 := Kp.of_below hB
     obtain rfl : Z = promC (c.wEpoch X.e) X m := by rw [HZ.out]; rfl
     have hne1 : q ≠ P := by omega
     have hne2 : p ≠ P := by omega
     go_upto_region 5 with ((refine store_one rfl 37 _ _ rfl (off := 188) (.int .u32 (X.e : Int)) bP' rfl rfl rfl rfl sizeU32 (by rw [unc_size]; decide) ?_; intro w4 b4 k4; rw [unc_set _ _ _ 188 _ (Co.s_epoch c X.e) (by decide)] at b4; have kp4 := kB.trans (k4.mono (fun i hi => by simp at hi; simp [hi]))))
     try simp only [Act.put]
     replace y0 := y0.kp1 k4 hne1
     replace x0' := x0'.kp1 k4 hne2
     clear c0
     go_wp2_with (first | refine load_blk rfl 51 _ rfl y0 rfl Tryz.underlying51 rfl sizeIdn ?_ | refine load_blk rfl 55 _ rfl x0' rfl Tryz.underlying55 rfl sizeMb ?_)
     refine (promise_ok P (c.wEpoch X.e) v X m _ b4).mono ?_
     rintro r w5 ⟨rfl, b5, k5⟩
     go_wp2_with fail
     go_end0
     exact ⟨rfl, b5, kp4.trans k5⟩
end Go.Proofs.YthgfpdidilolgaaGreat
