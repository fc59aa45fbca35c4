/-
  Of the texts beneath these laws, in their order: CeR.
  Each theorem says its own conditions.
-/
import Derived.Test.YthgfpdidilolgaaGreatZ20
import Derived.Test.YthgfpdidilolgaaGreatZ23
import Derived.Test.YthgfpdidilolgaaGreatZ05
import Derived.Test.YthgfpdidilolgaaGreatZ04
namespace Go.Proofs.YthgfpdidilolgaaGreat
set_option maxRecDepth 10000
set_option linter.unusedSimpArgs false
open Go.RowKit Go.Sort
set_option linter.unusedVariables false
set_option maxHeartbeats 16000000 in
theorem crecv_ok (c : Co) (L : List Kt) (p : Pk) (s : Nat) (hs : s < 8) (hcs : c.self = (s : Int)) (kc : ∀ i, c.count i < 4294967296) (hn : c.kn = L.length) (hl : L.length * 352 ≤ 140737488351232) (w : World) (lS : Li Kt.vals 0 c.ka L w) :
  Calls Tryz.prog 108 #[.agg (coc c), .agg (pkc p)] w fun e w' => Did (recvS c L p) (heedB c p) w.heap.size e w' ∧ Below w.heap.size w w' := by
 obtain ⟨a0, a1, a2', hB⟩ := three_blk (T0 := 78) (T1 := 116) (T2 := 78) (C0 := coc c) (C1 := (pkc p)) (C2 := coc Co.zero) (w := w) rfl
 go_enter Tryz.func108, Tryz.ntmps108
 go_upto_region 1 with (refine alloc_zero zeroCo rfl rfl ?_)
 try simp only [Act.put, List.setIfInBounds_toArray, List.set_cons_zero, List.set_cons_succ]
 try simp only [alloc_size]
 generalize ((w.alloc (Obj.cells (coc c) 78)).alloc (Obj.cells (pkc p) 116)).alloc (Obj.cells (coc Co.zero) 78) = W at a0 a1 a2' hB ⊢
 have hW2 := a2'.lt
 go_wp2_with (refine load_blk rfl 78 _ rfl a0 rfl Tryz.underlying78 rfl sizeCo ?_)
 refine (begin_ok c L hn (by omega) _ (lS.below hB)).mono ?_
 rintro r w1 ⟨⟨a, k, rfl, hg⟩, hb⟩
 have hWb := hb.size
 replace a1 := a1.below hb
 replace a2' := a2'.below hb
 replace hB := hB.trans (hb.mono hB.size)
 clear hb a0 lS
 have hg0 := hg
 obtain ⟨q, hq⟩ : ∃ q, Hid (c.kp a L.length k = q) := ⟨_, rfl⟩
 rw [hq.out]
 have hb := below_box w1 (.cells (unc q (.slice none 0 0)) 166)
 have bP := blk_new w1 (unc q (.slice none 0 0)) 166
 have hsz1 : (w1.alloc (.cells (unc q (.slice none 0 0)) 166)).heap.size = w1.heap.size + 1 := alloc_size _ _
 go_upto_region 2 with (first | refine alloc_zero zeroUn rfl rfl ?_ | refine store_new rfl 166 _ _ rfl (cells := unc q (.slice none 0 0)) rfl rfl sizeUn rfl (unc_one _ _ _ _) ?_)
 try simp only [Act.put, List.setIfInBounds_toArray, List.set_cons_zero, List.set_cons_succ]
 generalize w1.alloc (Obj.cells (unc q (.slice none 0 0)) 166) = W1 at bP hb hsz1 ⊢
 replace a1 := a1.below hb
 replace a2' := a2'.below hb
 replace hg := hg.below hb
 replace hB := hB.trans (hb.mono hB.size)
 clear hb 
 have hO : Off a L w1.heap.size := Off.lg hg0 _ (.inr (Nat.le_refl _))
 clear hg0
 have hL : Li Kt.vals (w.heap.size + 1 + 1 + 1) a L W1 := hg.li.mono (by omega)
 clear hg
 obtain ⟨P, hP⟩ : ∃ P, w1.heap.size = P := ⟨_, rfl⟩
 rw [hP] at bP hO hsz1 hWb ⊢
 clear hP
 have eq1 : Hid (q.beat = c.beat) := by show q.beat = c.beat; rw [← hq.out]; rfl
 have eq2 : Hid (q.self = (s : Int)) := by show q.self = (s : Int); rw [← hq.out]; exact hcs
 have ph := hear_ok q.beat (p.n 0 : Int) (p.n 1)
 obtain ⟨t1, ht1⟩ : ∃ t, decide ((p.n 0 : Int) = (s : Int)) = t := ⟨_, rfl⟩
 obtain ⟨t2, ht2⟩ : ∃ t, hearsB q.beat (p.n 0 : Int) (p.n 1) = t := ⟨_, rfl⟩
 have HH : Hid (heedB c p = (!t1 && t2)) := by show heedB c p = _; rw [heedB, hcs, ht1, ← eq1.out, ht2]
 have hno : ∀ e w', (!t1 && t2) = false → Did ⟨c, L, []⟩ false w.heap.size e w' → Did (recvS c L p) (heedB c p) w.heap.size e w' := fun e w' h1 h => by rw [recvS, HH.out, h1]; exact h
 have k1 : ((p.n 0 : Int) == (s : Int)) = t1 := by rw [← ht1, Bool.eq_iff_iff, beq_iff_eq, decide_eq_true_iff]
 have hi8 : t2 = true → p.n 0 < 8 := fun h => by
  have h3 : hearsB q.beat (p.n 0 : Int) (p.n 1) = true := ht2.trans h
  unfold hearsB at h3
  have := of_decide_eq_true h3
  omega
 rw [ht2] at ph
 have c0 := a1.cell 0 _ (pk_get0 p)
 have c1 := a1.cell 1 _ (p.get_inc)
 have hp0 := p.lt 0
 have hpw : IntKind.i64.wrap (p.n 0 : Int) = (p.n 0 : Int) := by rw [IntKind.wrap_i64]; omega
 clear ht2
 go_wp2_with (refine load_part rfl 72 _ rfl (o := 3) bP rfl q.beat.vals (un_beat _ _) Tryz.underlying72 rfl sizeBt ?_)
 refine (ph _).mono ?_
 rintro r w2 ⟨rfl, hb⟩
 replace a1 := a1.below hb
 replace a2' := a2'.below hb
 replace bP := bP.below hb
 replace hL := hL.below hb
 replace hB := hB.trans (hb.mono hB.size)
 clear hb ph c0 c1
 obtain ⟨X, hX⟩ : ∃ X, hearB q.beat (p.n 0 : Int) (p.n 1) = X := ⟨_, rfl⟩
 rw [hX]
 have hb := below_box w2 (.cells X.arr 72)
 have y0 := blk_new w2 X.arr 72
 have hpl := bP.lt
 go_upto_region 3 with (first | refine alloc_zero zeroBt rfl rfl ?_ | refine store_new rfl 72 _ _ rfl (cells := X.arr) rfl rfl sizeBt rfl (Bt.arr_one _) ?_)
 try simp only [Act.put, List.setIfInBounds_toArray, List.set_cons_zero, List.set_cons_succ]
 generalize w2.alloc (Obj.cells X.arr 72) = W2 at y0 hb ⊢
 replace a1 := a1.below hb
 replace a2' := a2'.below hb
 replace bP := bP.below hb
 replace hL := hL.below hb
 replace hB := hB.trans (hb.mono hB.size)
 clear hb 
 generalize w2.heap.size = Y at y0 hpl ⊢
 have c0 := a1.cell 0 _ (pk_get0 p)
 have c2 := bP.cell 0 (.int .i64 q.self) rfl
 rw [eq2.out] at c2
 cases t1 with
 | true =>
  have k1' : (p.n 0 : Int) = (s : Int) := by simpa using k1
  replace hno := fun e w' => hno e w' rfl
  clear HH y0 k1
  rw [k1'] at c0 hpw
  go_upto_region 4 with fail
  go_wp2_with (first | refine load_part rfl 78 _ rfl (o := 0) bP rfl (col q) (unc_core _ _) Tryz.underlying78 rfl sizeCo ?_ | (refine store_part rfl 78 _ _ rfl (off := 0) (cells := coc q) a2' rfl rfl sizeCo (Nat.le_refl _) (coc_one _) ?_; intro w9 b9 k9; rw [Co.all] at b9; have hB9 : Below w.heap.size w w9 := hB.trans (k9.below1 (by omega) hB.size); have hL9 := hL.off k9 (fun y hy => by simp at hy; subst hy; exact Off.li hL _ (.inl (by omega)))))
  exact bodyPost_ret (w := w9) (v := .tuple #[.agg (coc q), .bool false, .slice none 0 0]) (ret_ctt rfl rfl b9 Tryz.underlying78 rfl sizeCo rfl rfl) rfl ⟨hno _ _ ⟨a, k, none, 0, by rw [← hq.out]; rfl, hL9.mono (by omega), Li.nil _ _ _⟩, hB9⟩
 | false =>
  have k1' : ¬ (p.n 0 : Int) = (s : Int) := by simpa using k1
  cases t2 with
  | false =>
   replace hno := fun e w' => hno e w' rfl
   clear HH y0
   go_upto_region 4 with fail
   go_wp2_with (first | refine load_part rfl 78 _ rfl (o := 0) bP rfl (col q) (unc_core _ _) Tryz.underlying78 rfl sizeCo ?_ | (refine store_part rfl 78 _ _ rfl (off := 0) (cells := coc q) a2' rfl rfl sizeCo (Nat.le_refl _) (coc_one _) ?_; intro w9 b9 k9; rw [Co.all] at b9; have hB9 : Below w.heap.size w w9 := hB.trans (k9.below1 (by omega) hB.size); have hL9 := hL.off k9 (fun y hy => by simp at hy; subst hy; exact Off.li hL _ (.inl (by omega)))))
   exact bodyPost_ret (w := w9) (v := .tuple #[.agg (coc q), .bool false, .slice none 0 0]) (ret_ctt rfl rfl b9 Tryz.underlying78 rfl sizeCo rfl rfl) rfl ⟨hno _ _ ⟨a, k, none, 0, by rw [← hq.out]; rfl, hL9.mono (by omega), Li.nil _ _ _⟩, hB9⟩
  | true =>
   have hi := hi8 rfl
   obtain ⟨i, hii⟩ : ∃ i, p.n 0 = i := ⟨_, rfl⟩
   clear hno hi8
   have hyes : ∀ e w', Did (recvY c L p) true w.heap.size e w' → Did (recvS c L p) (heedB c p) w.heap.size e w' := fun e w' h => by rw [recvS, HH.out]; exact h
   clear HH
   go_upto_region 5 with fail
   clear c0 c2
   have kP0 : Kp [P] W2 W2 := Kp.refl _ _
   go_upto_region 6 with (first | refine load_blk rfl 72 _ rfl y0 rfl Tryz.underlying72 rfl sizeBt ?_ | (refine store_part rfl 72 _ _ rfl (off := 3) (cells := X.arr) bP rfl rfl sizeBt (show 3 + 17 ≤ 190 by decide) (Bt.arr_one _) ?_; intro w3 b3 k3; rw [unc_put _ _ _ 3 _ (Co.s_beat q X) (show 3 + 17 ≤ 189 by decide)] at b3; have kp3 := kP0.trans (k3.mono (fun i hi => by simp at hi; simp [hi]))))
   try simp only [Act.put]
   replace a1 := a1.kp1 k3 (by omega)
   replace a2' := a2'.kp1 k3 (by omega)
   replace hL := hL.off k3 (fun y hy => by simp at hy; subst hy; exact hO)
   replace hB := hB.trans (k3.below1 (by omega) hB.size)
   clear k3 bP y0 kP0 kp3
   have bP : Blk P (unc (q.wBeat X) (.slice none 0 0)) 166 w3 := b3
   clear b3
   obtain ⟨d, hd⟩ : ∃ d, Hid (q.wBeat X = d) := ⟨_, rfl⟩
   rw [hd.out] at bP
   have pu := update_ok (d.peers i) p
   replace hi : i < 8 := by omega
   have i0 : (i : Int) < 8 := by omega
   have i1 : (0 : Int) ≤ (i : Int) := by omega
   rw [hii] at k1 k1' hpw
   replace hp0 : i < 4294967296 := by omega
   have HI : Hid (p.n 0 = i) := hii
   have hc0 : ∀ (v : Value), (pkc p)[0]? = some v → v = .int .u32 (i : Int) := fun v hv => by rw [pk_get0 p, hii] at hv; injection hv with hv; exact hv.symm
   have pg0 : (pkc p)[0]? = some (.int .u32 (i : Int)) := by rw [pk_get0 p, hii]
   clear hii hc0
   have hX0 := a1.drew
   replace a2' := a2'.drew
   replace hL := hL.below (Below.refl _ _).drew
   replace hB := hB.drew
   replace bP := bP.drew
   clear a1
   have hpl : P < w3.drew.heap.size := bP.lt
   refine wp_region_held_drew (S := fun w' => Blk (w.heap.size + 1) (pkc p) 116 w') (by kernel_rfl) hX0 (fun hHeld => ?_)
   refine tkQ 0 hHeld ?_
   try simp only [yy]
   refine tkH 1 (v := ?v21) rfl (by kernel_rfl) (fun _ _ _ h => h) (Or.inl ⟨by rfl, ?hy21⟩) hHeld ?_
   case hy21 => (intro w hSw; have hc := hSw.cell 0 _ pg0; clear hSw; go_simp; try with_reducible rfl)
   try simp only [yy]
   refine tkQ 2 hHeld ?_
   try simp only [yy]
   refine tkH 3 (v := ?v23) rfl (by kernel_rfl) (fun _ _ _ h => h) (Or.inl ⟨by rfl, ?hy23⟩) hHeld ?_
   case hy23 => (intro w hSw; have hc := hSw.cell 0 _ pg0; clear hSw; go_simp; try with_reducible rfl)
   try simp only [yy]
   refine tkQ 4 hHeld ?_
   try simp only [yy]
   refine tkQ 5 hHeld ?_
   try simp only [yy]
   refine tkQ 6 hHeld ?_
   try simp only [yy]
   refine' tkH 8 (v := _) rfl (by kernel_rfl) (fun _ _ _ h => h) (yieldsIf_load_mid (by rfl) _ _ rfl (w.heap.size + 1) 0 rfl (pkl p) _ ?hS27 Tryz.underlying116 rfl sizePk) hHeld ?_
   case hS27 => exact fun w h => h.whole
   try simp only [yy]
   refine tkQ 10 hHeld ?_
   try simp only [yy]
   refine tkQ 11 hHeld ?_
   try simp only [yy]
   refine rd1 7 (fun K hK => ?_)
   rw [if_pos (by rfl)]
   refine wp_load_part 75 _ rfl (o := 60 + i * 16) bP rfl (d.peers i).vals (un_peer d (.slice none 0 0) i hi) Tryz.underlying75 rfl sizePe ?_
   refine hK.out _ _ hHeld (fun hHeld => ?_)
   clear hK K 
   try simp only [yy]
   refine rd1 9 (fun K hK => ?_)
   go_simp
   go_wp2_with (refine (pu _).mono ?_; rintro r u2 ⟨rfl, hb⟩)
   replace bP := bP.below hb
   replace a2' := a2'.below hb
   replace hL := hL.below hb
   replace hB := hB.trans (hb.mono hB.size)
   have hpl := bP.lt
   refine hK.out _ _ (hHeld.below hb) (fun hHeld => ?_)
   clear hK K hb
   refine tkQ 12 hHeld ?_
   try simp only [yy]
   refine rd1 13 (fun K hK => ?_)
   rw [if_pos (by rfl)]
   refine wp_store_part 75 _ _ rfl (off := 60 + i * 16) (cells := (updP (d.peers i) (told p)).arr) bP rfl rfl sizePe (show 60 + i * 16 + 16 ≤ 190 by omega) (Pe.arr_one _) ?_
   intro u3 hn9 hk9
   rw [unc_put _ _ _ (60 + i * 16) _ (Co.s_peer d i (updP (d.peers i) (told p)) hi) (show 60 + i * 16 + 16 ≤ 189 by omega)] at hn9
   replace a2' := a2'.kp1 hk9 (by omega)
   replace hL := hL.off hk9 (fun y hy => by simp at hy; subst hy; exact hO)
   replace hB := hB.trans (hk9.below1 (by omega) hB.size)
   refine hK.out _ _ (hHeld.kp1 hk9 (by omega)) (fun hHeld => ?_)
   clear hK K hk9 bP
   try simp only [yy]
   refine wpAnyH_done (by kernel_rfl) ?_ _
   have a1 := hHeld
   clear hHeld
   obtain ⟨e7, he7⟩ : ∃ e, Hid (d.wPeer i (updP (d.peers i) (told p)) = e) := ⟨_, rfl⟩
   have bP : Blk P (unc (d.wPeer i (updP (d.peers i) (told p))) (.slice none 0 0)) 166 _ := hn9
   rw [he7.out] at bP
   clear hn9 pu
   rename World => w7
   obtain ⟨M, hM⟩ : ∃ M, max e7.epoch (max (p.n 33) (p.n 21)) = M := ⟨_, rfl⟩
   have c3 := bP.cell 188 (.int .u32 (e7.epoch : Int)) rfl
   have c4 := a1.cell 33 (.int .u32 (p.n 33 : Int)) rfl
   have c5 := a1.cell 21 (.int .u32 (p.n 21 : Int)) rfl
   go_upto_region 7 with fail
   go_cut [9] from 53 to 63 (fun v wx => v = .bool true ∧ Blk P (unc (e7.wEpoch M) (.slice none 0 0)) 166 wx ∧ Kp [P] w7 wx)
   case first =>
    have hmx := fun w => max3_run (P := Tryz.prog) #[37, 37, 37] 37 e7.epoch (p.n 33) (p.n 21) w
    rw [hM] at hmx
    go_wp2_with (refine store_one rfl 37 _ _ rfl (off := 188) (.int .u32 (M : Int)) bP rfl rfl rfl rfl sizeU32 (by rw [unc_size]; decide) ?_; intro w8 b8 k8; rw [unc_set _ _ _ 188 _ (Co.s_epoch e7 M) (by decide)] at b8)
    go_meet
    exact ⟨rfl, b8, k8⟩
   case rest =>
    obtain ⟨rfl, b8, k8⟩ := hcut
    rename World => w8
    clear c3 c4 c5
    have hPa := bP.lt
    replace a1 := a1.kp1 k8 (by omega)
    replace a2' := a2'.kp1 k8 (by omega)
    replace hL := hL.off k8 (fun y hy => by simp at hy; subst hy; exact hO)
    replace hB := hB.trans (k8.below1 (by omega) hB.size)
    clear k8 bP
    have eh : e7.wEpoch M = (hearC c p).kp a L.length k := by
     rw [← hM, ← he7.out, ← hd.out, ← hX, ← hq.out, ← HI.out]
     rfl
    rw [eh] at b8
    clear eh hM he7 hd
    obtain ⟨g, hg⟩ : ∃ g, Hid ((hearC c p).kp a L.length k = g) := ⟨_, rfl⟩
    rw [hg.out] at b8
    have g1 : g.self = (s : Int) := by rw [← hg.out]; exact hcs
    have pa := adopt_ok g.pr (s : Int) g.own p
    obtain ⟨A, hA⟩ : ∃ A, adoptB g.pr (s : Int) g.own p = A := ⟨_, rfl⟩
    have er : adopC g p = (recv0 c p).kp a L.length k := by rw [← hg.out]; exact adopC_kp _ _ _ _ _
    have er2 : A = true → adopC g p = promC g p.pr p.want := fun h => by rw [adopC, g1, hA, h, if_pos rfl]
    have er3 : A = false → adopC g p = g := fun h => by rw [adopC, g1, hA, h, if_neg (by simp)]
    rw [hA] at pa
    clear hA hq hX
    have c3 := b8.cell 0 (.int .i64 g.self) rfl
    rw [g1] at c3
    have c4 := b8.cell 2 (.int .u32 (g.own : Int)) rfl
    go_wp2_with (first | refine load_part rfl 51 _ rfl (o := 40) b8 rfl g.pr.vals (un_pr _ _) Tryz.underlying51 rfl sizeIdn ?_ | refine load_blk rfl 116 _ rfl a1 rfl Tryz.underlying116 rfl sizePk ?_)
    refine (pa _).mono ?_
    rintro r w9 ⟨rfl, hb⟩
    replace a1 := a1.below hb
    replace a2' := a2'.below hb
    replace b8 := b8.below hb
    replace hL := hL.below hb
    replace hB := hB.trans (hb.mono hB.size)
    clear hb pa c3 c4
    have hPb := b8.lt
    cases A with
    | true =>
     go_upto_region 9 with fail
     go_wp2_with (first | refine load_part rfl 51 _ rfl (o := 21) a1 rfl p.pr.vals p.p_pr Tryz.underlying51 rfl sizeIdn ?_ | refine load_part rfl 55 _ rfl (o := 24) a1 rfl (row8 p.want) p.p_want Tryz.underlying55 rfl sizeMb ?_)
     refine (promise_ok P g (.slice none 0 0) p.pr p.want _ b8).mono ?_
     rintro r w10 ⟨rfl, b10, k10⟩
     replace a1 := a1.kp1 k10 (by omega)
     replace a2' := a2'.kp1 k10 (by omega)
     replace hL := hL.off k10 (fun y hy => by simp at hy; subst hy; exact hO)
     replace hB := hB.trans (k10.below1 (by omega) hB.size)
     clear k10 b8
     have b8 : Blk P (unc ((recv0 c p).kp a L.length k) (.slice none 0 0)) 166 w10 := by rw [← er, er2 (by simp)]; exact b10
     clear b10 er er2 er3 g1 hg
     go_upto_region 10 with fail
     have hU : Uv 166 (w.heap.size + 1 + 1 + 1) P ⟨recv0 c p, L, []⟩ _ := ⟨a, k, none, 0, b8, hL, Lg.none _ _ _, hO, fun g hg => by simp [blkOf] at hg⟩
     clear b8 hL hO
     go_wp2_with (refine load_blk rfl 116 _ rfl a1 rfl Tryz.underlying116 rfl sizePk ?_)
     refine (takeFrames_ok (w.heap.size + 1 + 1 + 1) P ⟨recv0 c p, L, []⟩ p s hs ((recv0_self c p).trans hcs) (by show ∀ i, (recv0 c p).count i < _; rw [recv0_count]; exact kc) hl (by simp) (by omega) _ hU).mono ?_
     rintro r w11 ⟨rfl, hV, hb⟩
     have hPc := hU.lt
     replace a2' := a2'.und hb (by omega)
     replace hB := hB.trans (hb.mono (by omega))
     clear hb hU a1
     have hol := offS_len ⟨recv0 c p, L, []⟩ p
     go_wp2_with fail
     refine (goOn_ok (w.heap.size + 1 + 1 + 1) P _ (by have := hol.2; simp at this; omega) _ hV).mono ?_
     rintro r w12 ⟨rfl, hU, hb⟩
     have hPd := hV.lt
     replace a2' := a2'.und hb (by omega)
     replace hB := hB.trans (hb.mono (by omega))
     clear hb hV hol
     obtain ⟨s2, hs2⟩ : ∃ s2, recvY c L p = s2 := ⟨_, rfl⟩
     have hU2 : Uv 166 (w.heap.size + 1 + 1 + 1) P (recvY c L p) w12 := hU
     rw [hs2] at hU2 hyes
     clear hU hs2
     have hfin := hyes
     obtain ⟨a2, k2, ta, tk, b2, hL2, hG2, hO2, hO3⟩ := hU2
     go_upto_region 12 with fail
     have hT2 : Li Hp.vals (P + 1) ta s2.t w12.drew := (hG2.li).below (Below.refl _ _).drew
     replace hL2 := hL2.below (Below.refl _ _).drew
     replace a2' := a2'.drew
     replace hB := hB.drew
     have hpm := b2.lt
     clear hG2
     refine wp_region_held_drew (S := fun w' => Blk P (unc (s2.c.kp a2 s2.L.length k2) (.slice ta s2.t.length tk)) 166 w') (by kernel_rfl) b2.drew (fun hHeld => ?_)
     refine tkQ 0 hHeld ?_
     try simp only [yy]
     refine' tkH 1 (v := _) rfl (by kernel_rfl) (fun _ _ _ h => h) (yieldsIf_load_mid (by rfl) _ _ rfl P 0 rfl (col (s2.c.kp a2 s2.L.length k2)) _ ?hS9 Tryz.underlying78 rfl sizeCo) hHeld ?_
     case hS9 => exact fun w h => h.range 0 _ (unc_core _ _)
     try simp only [yy]
     refine tkQ 2 hHeld ?_
     try simp only [yy]
     refine tkH 3 (v := ?v11) rfl (by kernel_rfl) (fun _ _ _ h => h) (Or.inl ⟨by rfl, ?hy11⟩) hHeld ?_
     case hy11 => (intro w hSw; have hc : w.cell? ⟨P, 189, none⟩ = some (.slice ta s2.t.length tk) := hSw.cell 189 _ rfl; clear hSw; go_simp; try with_reducible rfl)
     try simp only [yy]
     refine rd1 4 (fun K hK => ?_)
     rw [if_pos (by rfl)]
     refine wp_store_all 78 _ _ rfl (cells := coc (s2.c.kp a2 s2.L.length k2)) a2' rfl rfl sizeCo rfl (coc_one _) ?_
     intro u1 hn9 hk9
     replace hL2 := hL2.off hk9 (fun y hy => by simp at hy; subst hy; exact Off.li hL2 _ (.inl (by omega)))
     replace hT2 := hT2.off hk9 (fun y hy => by simp at hy; subst hy; exact Off.li hT2 _ (.inl (by omega)))
     replace hB := hB.trans (hk9.below1 (by omega) hB.size)
     refine hK.out _ _ (hHeld.kp1 hk9 (by omega)) (fun hHeld => ?_)
     clear hK K hk9
     try simp only [yy]
     refine tkQ 5 hHeld ?_
     try simp only [yy]
     refine tkQ 6 hHeld ?_
     try simp only [yy]
     refine wpAnyH_done (by kernel_rfl) ?_ _
     go_wp2_with fail
     exact bodyPost_ret (w := _) (v := .tuple #[.agg (coc (s2.c.kp a2 s2.L.length k2)), .bool true, .slice ta s2.t.length tk]) (ret_ctt rfl rfl hn9 Tryz.underlying78 rfl sizeCo rfl rfl) rfl ⟨hfin _ _ ⟨a2, k2, ta, tk, rfl, hL2.mono (by omega), hT2.mono (by omega)⟩, hB⟩
    | false =>
     replace b8 : Blk P (unc ((recv0 c p).kp a L.length k) (.slice none 0 0)) 166 w9 := by rw [← er, er3 (by simp)]; exact b8
     clear er er2 er3 g1 hg
     go_upto_region 10 with fail
     have hU : Uv 166 (w.heap.size + 1 + 1 + 1) P ⟨recv0 c p, L, []⟩ _ := ⟨a, k, none, 0, b8, hL, Lg.none _ _ _, hO, fun g hg => by simp [blkOf] at hg⟩
     clear b8 hL hO
     go_wp2_with (refine load_blk rfl 116 _ rfl a1 rfl Tryz.underlying116 rfl sizePk ?_)
     refine (takeFrames_ok (w.heap.size + 1 + 1 + 1) P ⟨recv0 c p, L, []⟩ p s hs ((recv0_self c p).trans hcs) (by show ∀ i, (recv0 c p).count i < _; rw [recv0_count]; exact kc) hl (by simp) (by omega) _ hU).mono ?_
     rintro r w11 ⟨rfl, hV, hb⟩
     have hPc := hU.lt
     replace a2' := a2'.und hb (by omega)
     replace hB := hB.trans (hb.mono (by omega))
     clear hb hU a1
     have hol := offS_len ⟨recv0 c p, L, []⟩ p
     go_wp2_with fail
     refine (goOn_ok (w.heap.size + 1 + 1 + 1) P _ (by have := hol.2; simp at this; omega) _ hV).mono ?_
     rintro r w12 ⟨rfl, hU, hb⟩
     have hPd := hV.lt
     replace a2' := a2'.und hb (by omega)
     replace hB := hB.trans (hb.mono (by omega))
     clear hb hV hol
     obtain ⟨s2, hs2⟩ : ∃ s2, recvY c L p = s2 := ⟨_, rfl⟩
     have hU2 : Uv 166 (w.heap.size + 1 + 1 + 1) P (recvY c L p) w12 := hU
     rw [hs2] at hU2 hyes
     clear hU hs2
     have hfin := hyes
     obtain ⟨a2, k2, ta, tk, b2, hL2, hG2, hO2, hO3⟩ := hU2
     go_upto_region 12 with fail
     have hT2 : Li Hp.vals (P + 1) ta s2.t w12.drew := (hG2.li).below (Below.refl _ _).drew
     replace hL2 := hL2.below (Below.refl _ _).drew
     replace a2' := a2'.drew
     replace hB := hB.drew
     have hpm := b2.lt
     clear hG2
     refine wp_region_held_drew (S := fun w' => Blk P (unc (s2.c.kp a2 s2.L.length k2) (.slice ta s2.t.length tk)) 166 w') (by kernel_rfl) b2.drew (fun hHeld => ?_)
     refine tkQ 0 hHeld ?_
     try simp only [yy]
     refine' tkH 1 (v := _) rfl (by kernel_rfl) (fun _ _ _ h => h) (yieldsIf_load_mid (by rfl) _ _ rfl P 0 rfl (col (s2.c.kp a2 s2.L.length k2)) _ ?hS15 Tryz.underlying78 rfl sizeCo) hHeld ?_
     case hS15 => exact fun w h => h.range 0 _ (unc_core _ _)
     try simp only [yy]
     refine tkQ 2 hHeld ?_
     try simp only [yy]
     refine tkH 3 (v := ?v17) rfl (by kernel_rfl) (fun _ _ _ h => h) (Or.inl ⟨by rfl, ?hy17⟩) hHeld ?_
     case hy17 => (intro w hSw; have hc : w.cell? ⟨P, 189, none⟩ = some (.slice ta s2.t.length tk) := hSw.cell 189 _ rfl; clear hSw; go_simp; try with_reducible rfl)
     try simp only [yy]
     refine rd1 4 (fun K hK => ?_)
     rw [if_pos (by rfl)]
     refine wp_store_all 78 _ _ rfl (cells := coc (s2.c.kp a2 s2.L.length k2)) a2' rfl rfl sizeCo rfl (coc_one _) ?_
     intro u1 hn9 hk9
     replace hL2 := hL2.off hk9 (fun y hy => by simp at hy; subst hy; exact Off.li hL2 _ (.inl (by omega)))
     replace hT2 := hT2.off hk9 (fun y hy => by simp at hy; subst hy; exact Off.li hT2 _ (.inl (by omega)))
     replace hB := hB.trans (hk9.below1 (by omega) hB.size)
     refine hK.out _ _ (hHeld.kp1 hk9 (by omega)) (fun hHeld => ?_)
     clear hK K hk9
     try simp only [yy]
     refine tkQ 5 hHeld ?_
     try simp only [yy]
     refine tkQ 6 hHeld ?_
     try simp only [yy]
     refine wpAnyH_done (by kernel_rfl) ?_ _
     go_wp2_with fail
     exact bodyPost_ret (w := _) (v := .tuple #[.agg (coc (s2.c.kp a2 s2.L.length k2)), .bool true, .slice ta s2.t.length tk]) (ret_ctt rfl rfl hn9 Tryz.underlying78 rfl sizeCo rfl rfl) rfl ⟨hfin _ _ ⟨a2, k2, ta, tk, rfl, hL2.mono (by omega), hT2.mono (by omega)⟩, hB⟩
end Go.Proofs.YthgfpdidilolgaaGreat
