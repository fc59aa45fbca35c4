/-
  What a core does at a tick, as the document's own call says (congressref13.Tick).
  Of a Self from 0 to 7, an Own that is not 0; its numbers are such as its types hold; what it keeps takes no more bytes than a list may.
-/
import Derived.Test.YthgmecgknhphmaaCfB
import Derived.Test.YthgmecgknhphmaaCfU
import Derived.Test.YthgmecgknhphmaaCeQ
import Derived.Test.YthgmecgknhphmaaGaJ
import Derived.Test.YthgmecgknhphmaaBtR
import Derived.Test.YthgmecgknhphmaaRdE
import Derived.Test.YthgmecgknhphmaaKtF
namespace Go.Proofs.Ythgmecgknhphmaa
set_option maxRecDepth 10000
set_option linter.unusedSimpArgs false
open Go.RowKit Go.Sort
set_option linter.unusedVariables false

theorem Lg.low {α : Type} {f : α → List Value} {k : Nat} {T : TypeId} {A B : Nat} {a : Option Addr} {c : Nat} {L : List α} {w : World} (h : Lg f k T B a c L w) (hA : A ≤ B) : Lg f k T A a c L w := by
  rcases h with h | ⟨g, e, hB, h⟩
  · exact .inl h
  · exact .inr ⟨g, e, by omega, h⟩
theorem Did.sim {s u : Sg} {b : Bool} {B : Nat} {e : Ending} {w : World} (h : Did s b B e w) (hs : Sg.sim s u) : Did u b B e w := by
  obtain ⟨a, k, ta, tk, h1, h2, h3⟩ := h
  obtain ⟨g1, g2, g3⟩ := hs
  rw [g1, g2, g3] at h1
  rw [g2] at h2
  rw [g3] at h3
  exact ⟨a, k, ta, tk, h1, h2, h3⟩
set_option maxRecDepth 60000 in
set_option maxHeartbeats 16000000 in
theorem dtick_ok (e : Co) (L : List Kt) (f : Nat → En) (s : Nat) (hs : s < 8) (hes : e.self = (s : Int)) (hown : e.own ≠ 0) (kf : e.fit) (hn : e.kn = L.length) (hl : (L.length + 1) * 352 ≤ 140737488355328) (w : World) (lS : Li Kt.vals 0 e.ka L w) :
    Calls Try.prog 12 #[.agg (coc e), .agg (frc f)] w fun r w' => Did (tickS e L f) (tickD e L) 0 r w' ∧ Below w.heap.size w w' := by
  obtain ⟨iI, zI, hI, hz0, hsz, hby, hzs⟩ := infoHp
  have pF := rfits_ok e
  have hfb : fitsB e = true := by unfold fitsB; rw [hes]; exact decide_eq_true ⟨by omega, by omega, hown⟩
  rw [hfb] at pF
  -- what comes of it
  obtain ⟨e1, he1⟩ : ∃ e1, Hid (e.wBeat (tickB e.beat) = e1) := ⟨_, rfl⟩
  have hf1 : e1.fit := by rw [← he1.out]; exact fit_wBeat kf (tickB_ok kf.beat)
  have hs1 : e1.self = (s : Int) := by rw [← he1.out]; exact hes
  have hk1 : e1.ka = e.ka ∧ e1.kn = L.length ∧ e1.kc = e.kc := by rw [← he1.out]; exact ⟨rfl, hn, rfl⟩
  obtain ⟨m, hm⟩ : ∃ m, Hid (reachC e1 = m) := ⟨_, rfl⟩
  have pR := rreach_ok e1.beat (s : Int) e.own (waitN e) hf1.beat.now hf1.beat.hd (by unfold waitN; omega)
  have hmr : rchB e1.beat (s : Int) e.own (waitN e) = m := by rw [← hm.out, reachC, hs1, ← he1.out]; rfl
  rw [hmr] at pR
  have pP := rpropose_ok e1 s hs hs1 hf1.epoch m
  obtain ⟨id, hid⟩ : ∃ i, propI e1 m = i := ⟨_, rfl⟩
  obtain ⟨P, hP⟩ : ∃ i, proB e1 m = i := ⟨_, rfl⟩
  have pU := runs_ok e1 s hs hs1 m
  obtain ⟨V1, hV1⟩ : ∃ i, unsB e1 m = i := ⟨_, rfl⟩
  rw [hid, hP] at pP
  rw [hV1] at pU
  obtain ⟨e3, he3⟩ : ∃ e3, Hid (proposeC e1 m = e3) := ⟨_, rfl⟩
  have h3y : (V1 && P) = true → e3 = promC (e1.wEpoch id.e) id m := fun h => by rw [← he3.out, proposeC, hV1, hP, if_pos h, hid]
  have h3n : (V1 && P) = false → e3 = e1 := fun h => by rw [← he3.out, proposeC, hV1, hP, h]; rfl
  have hf3 : e3.fit := by
    rw [← he3.out, proposeC]
    split
    · have hp := propI_fit hf1 s hs hs1 m
      exact fit_prom (fit_wEpoch hf1 hp.1) hp (fun i => by rw [← hm.out]; exact rchB_lt hf1.beat _ _ _ hf1.own i)
    · exact hf1
  obtain ⟨_, _, _, _, _, _, _, _⟩ := proposeC_keeps e1 m
  have hs3 : e3.self = (s : Int) := by rw [← he3.out, (proposeC_keeps e1 m).1]; exact hs1
  have hk3 : e3.ka = e.ka ∧ e3.kn = L.length ∧ e3.kc = e.kc := by
    rw [← he3.out, proposeC]
    split <;> exact hk1
  have h0 : tick0 e = e3 := by unfold tick0; rw [he1.out, hm.out]; exact he3.out
  obtain ⟨S1, hS1⟩ : ∃ S, goOnS ⟨e3, L, []⟩ = S := ⟨_, rfl⟩
  have hT : Hid (tickS e L f = sendS S1 f ∧ tickD e L = sendB S1.c) := by
    show tickS e L f = sendS S1 f ∧ tickD e L = sendB S1.c
    unfold tickS tickD tick1
    rw [h0, hS1]
    exact ⟨rfl, rfl⟩
  have hfS : S1.c.fit := by rw [← hS1]; exact fit_goOn (s := ⟨e3, L, []⟩) hf3
  have hsS : S1.c.self = (s : Int) := by rw [← hS1]; exact (goOn_self ⟨e3, L, []⟩).trans hs3
  have hlS : S1.L.length ≤ L.length ∧ S1.t.length ≤ 0 + 1 := by rw [← hS1]; exact goOn_len ⟨e3, L, []⟩
  rw [hT.out.1, hT.out.2]
  have hwt : IntKind.u32.wrap e.wait = (waitN e : Int) := by rw [IntKind.wrap_u32, waitN]; omega
  have hb1 : Hid (e.wBeat (tickB e.beat) = e1) := he1
  have pG := fun S (u : World) (h : Rv S u.heap.size ⟨e3, L, []⟩ (.agg (unc e3 (.slice none 0 0))) u) => rgoOn_ok S u.heap.size ⟨e3, L, []⟩ (.agg (unc e3 (.slice none 0 0))) (by show (0 + 1) * 408 ≤ _; omega) u (Nat.le_refl _) h
  rw [hS1] at pG
  have hk3e : Hid (e3.kp e.ka L.length e.kc = e3) := by show _ = _; rw [← hk3.1, ← hk3.2.2]; exact kp_self _ _ hk3.2.1
  clear hmr hm hid hP hV1 he3 h0 hS1 hf3 hs3 hk3 hk1 hT hfb hown he1
  obtain ⟨a0, a1, a2, hB⟩ := three_blk (T0 := 35) (T1 := 41) (T2 := 35) (C0 := coc e) (C1 := frc f) (C2 := coc Co.zero) (w := w) rfl
  go_enter Try.func12, Try.ntmps12
  go_upto_region 1 with (go_big_may; refine alloc_zero zeroCo rfl rfl ?_)
  try simp only [Act.put, List.setIfInBounds_toArray, List.set_cons_zero, List.set_cons_succ]
  try simp only [alloc_size]
  generalize ((w.alloc (Obj.cells (coc e) 35)).alloc (Obj.cells (frc f) 41)).alloc (Obj.cells (coc Co.zero) 35) = W at a0 a1 a2 hB ⊢
  obtain ⟨q, hq⟩ : ∃ q, w.heap.size = q := ⟨_, rfl⟩
  rw [hq] at a0 a1 a2 ⊢
  go_wp2_with (refine load_blk rfl 35 _ rfl a0 rfl Try.underlying35 rfl sizeCo ?_)
  refine (pF _).mono ?_
  rintro r w1 ⟨rfl, hb⟩
  replace a0 := a0.below hb
  replace a1 := a1.below hb
  replace a2 := a2.below hb
  replace hB := hB.trans (hb.mono hB.size)
  clear hb pF
  go_upto_region 3 with fail
  have hb := below_box w1 (.cells (unc e (.slice none 0 0)) 83)
  have y0 := blk_new w1 (unc e (.slice none 0 0)) 83
  have h_y := a2.lt
  go_upto_region 4 with (go_big_may; first | refine load_blk rfl 35 _ rfl a0 rfl Try.underlying35 rfl sizeCo ?_ | (refine build_as rfl 83 #[(0, .tmp 20)] rfl (C := unc e (.slice none 0 0)) ?_ ?_; kernel_rfl) | refine alloc_zero zeroSg rfl rfl ?_ | refine store_new rfl 83 _ _ rfl (cells := (unc e (.slice none 0 0))) rfl rfl sizeSg rfl (unc_one _ _ _ _) ?_)
  try simp only [Act.put, List.setIfInBounds_toArray, List.set_cons_zero, List.set_cons_succ]
  generalize w1.alloc (Obj.cells (unc e (.slice none 0 0)) 83) = W1 at y0 hb ⊢
  replace a0 := a0.below hb
  replace a1 := a1.below hb
  replace a2 := a2.below hb
  replace hB := hB.trans (hb.mono hB.size)
  clear hb 
  generalize w1.heap.size = y at y0 h_y ⊢
  -- beat
  go_wp2_with (refine load_part rfl 25 _ rfl (o := 3) a0 rfl e.beat.vals e.p_beat Try.underlying25 rfl sizeBt ?_)
  refine (rtick_ok e.beat kf.beat.now _).mono ?_
  rintro r w2 ⟨rfl, hb⟩
  replace a0 := a0.below hb
  replace a1 := a1.below hb
  replace a2 := a2.below hb
  replace y0 := y0.below hb
  replace hB := hB.trans (hb.mono hB.size)
  clear hb 
  go_upto_region 5 with (go_big_may; (refine store_part rfl 25 _ _ rfl (off := 3) (cells := (tickB e.beat).arr) y0 rfl rfl sizeBt (show 3 + 17 ≤ 190 by decide) (Bt.arr_one _) ?_; intro w3 b3 k3; rw [unc_put _ _ _ 3 _ (Co.s_beat e (tickB e.beat)) (show 3 + 17 ≤ 189 by decide)] at b3))
  try simp only [Act.put]
  replace a0 := a0.kp1 k3 (by omega)
  replace a1 := a1.kp1 k3 (by omega)
  replace a2 := a2.kp1 k3 (by omega)
  replace hB := hB.trans (k3.below1 (by omega) hB.size)
  clear k3 y0
  have y0 : Blk y (unc e1 (.slice none 0 0)) 83 w3 := by rw [← hb1.out]; exact b3
  clear b3 hb1
  -- reach
  have c0 : w3.cell? ⟨q, 0, none⟩ = some (.int .i64 (s : Int)) := (a0.cell 0 (.int .i64 e.self) rfl).trans (by rw [hes])
  have c1 := a0.cell 1 (.int .i64 e.wait) rfl
  have c2 := a0.cell 2 (.int .u32 (e.own : Int)) rfl
  go_wp2_with (refine load_part rfl 25 _ rfl (o := 3) y0 rfl e1.beat.vals (un_beat _ _) Try.underlying25 rfl sizeBt ?_)
  refine (pR _).mono ?_
  rintro r w4 ⟨rfl, hb⟩
  replace a0 := a0.below hb
  replace a1 := a1.below hb
  replace a2 := a2.below hb
  replace y0 := y0.below hb
  replace hB := hB.trans (hb.mono hB.size)
  clear hb pR c0 c1 c2
  have hb := below_box w4 (.cells (mbc m) 28)
  have z0 := blk_new w4 (mbc m) 28
  have h_z := y0.lt
  go_upto_region 6 with (go_big_may; first | refine alloc_zero zeroMb rfl rfl ?_ | refine store_new rfl 28 _ _ rfl (cells := (mbc m)) rfl rfl sizeMb rfl (mbc_one _) ?_)
  try simp only [Act.put, List.setIfInBounds_toArray, List.set_cons_zero, List.set_cons_succ]
  generalize w4.alloc (Obj.cells (mbc m) 28) = W4 at z0 hb ⊢
  replace a0 := a0.below hb
  replace a1 := a1.below hb
  replace a2 := a2.below hb
  replace y0 := y0.below hb
  replace hB := hB.trans (hb.mono hB.size)
  clear hb 
  generalize w4.heap.size = z at z0 h_z ⊢
  -- propose
  go_wp2_with (first | refine load_part rfl 35 _ rfl (o := 0) y0 rfl (col e1) (unc_core _ _) Try.underlying35 rfl sizeCo ?_ | refine load_blk rfl 28 _ rfl z0 rfl Try.underlying28 rfl sizeMb ?_)
  refine (pP _).mono ?_
  rintro r w5 ⟨rfl, hb⟩
  replace a0 := a0.below hb
  replace a1 := a1.below hb
  replace a2 := a2.below hb
  replace y0 := y0.below hb
  replace z0 := z0.below hb
  replace hB := hB.trans (hb.mono hB.size)
  clear hb pP
  have hb := below_box w5 (.cells id.arr 27)
  have x0 := blk_new w5 id.arr 27
  have h_x := z0.lt
  go_upto_region 7 with (go_big_may; first | refine alloc_zero zeroIdn rfl rfl ?_ | refine store_new rfl 27 _ _ rfl (cells := id.arr) rfl rfl sizeIdn rfl id.arr_one ?_)
  try simp only [Act.put, List.setIfInBounds_toArray, List.set_cons_zero, List.set_cons_succ]
  generalize w5.alloc (Obj.cells id.arr 27) = W5 at x0 hb ⊢
  replace a0 := a0.below hb
  replace a1 := a1.below hb
  replace a2 := a2.below hb
  replace y0 := y0.below hb
  replace z0 := z0.below hb
  replace hB := hB.trans (hb.mono hB.size)
  clear hb 
  generalize w5.heap.size = x at x0 h_x ⊢
  obtain ⟨T1, hT1⟩ : ∃ T, Hid ((P && V1) = T) := ⟨_, rfl⟩
  go_cut [51] from 45 to 50 (fun v wx => v = .bool T1 ∧ Below W5.heap.size W5 wx)
  case first =>
    clear pG h3y h3n
    cases P with
    | false =>
      obtain rfl : T1 = false := by rw [← hT1.out]; rfl
      clear pU
      go_wp2_with fail
      go_meet
      exact ⟨rfl, Below.refl _ _⟩
    | true =>
      obtain rfl : T1 = V1 := by rw [← hT1.out]; rfl
      go_wp2_with (first | refine load_wpart rfl 35 _ rfl (o := 0) y0 rfl (col e1) (unc_core _ _) Try.underlying35 rfl sizeCo ?_ | refine load_want rfl 28 _ rfl z0 rfl Try.underlying28 rfl sizeMb ?_)
      refine (pU _).mono ?_
      rintro r w6 ⟨rfl, hb⟩
      go_wp2_with fail
      go_meet
      exact ⟨rfl, hb⟩
  case rest =>
    obtain ⟨rfl, hb⟩ := hcut
    rename World => w6
    clear pU
    replace a0 := a0.below hb
    replace a1 := a1.below hb
    replace a2 := a2.below hb
    replace y0 := y0.below hb
    replace z0 := z0.below hb
    replace x0 := x0.below hb
    replace hB := hB.trans (hb.mono hB.size)
    clear hb 
    go_upto_if 51 with fail
    go_cut [7] from 52 to 59 (fun v wx => v = .pointer (some ⟨y, 0, none⟩) ∧ Blk y (unc e3 (.slice none 0 0)) 83 wx ∧ Blk q (coc e) 35 wx ∧ Blk (q + 1) (frc f) 41 wx ∧ Blk (q + 1 + 1) (coc Co.zero) 35 wx ∧ Below w.heap.size w wx)
    case first =>
      clear pG
      cases T1 with
      | true =>
        obtain ⟨rfl, rfl⟩ : P = true ∧ V1 = true := by have := hT1.out; revert this; cases P <;> cases V1 <;> simp
        have h3 := h3y rfl
        clear h3y h3n hT1
        have c0 := x0.cell 0 (.int .u32 (id.e : Int)) rfl
        go_upto_region 9 with (go_big_may; (refine store_one rfl 22 _ _ rfl (off := 188) (.int .u32 (id.e : Int)) y0 rfl rfl rfl rfl sizeU32 (by rw [unc_size]; decide) ?_; intro w7 b7 k7; rw [unc_set _ _ _ 188 _ (Co.s_epoch e1 id.e) (by decide)] at b7))
        try simp only [Act.put]
        replace a0 := a0.kp1 k7 (by omega)
        replace a1 := a1.kp1 k7 (by omega)
        replace a2 := a2.kp1 k7 (by omega)
        replace z0 := z0.kp1 k7 (by omega)
        replace x0 := x0.kp1 k7 (by omega)
        replace hB := hB.trans (k7.below1 (by omega) hB.size)
        clear k7 y0 c0
        obtain ⟨e2, he2⟩ : ∃ e2, Hid (e1.wEpoch id.e = e2) := ⟨_, rfl⟩
        have y0 : Blk y (unc e2 (.slice none 0 0)) 83 w7 := by rw [← he2.out]; exact b7
        rw [he2.out] at h3
        clear b7 he2
        go_wp2_with (first | refine load_blk rfl 83 _ rfl y0 rfl Try.underlying83 rfl sizeSg ?_ | refine load_blk rfl 27 _ rfl x0 rfl Try.underlying27 rfl sizeIdn ?_ | refine load_blk rfl 28 _ rfl z0 rfl Try.underlying28 rfl sizeMb ?_)
        refine (rprom_ok e2 none 0 0 id m _).mono ?_
        rintro r w8 ⟨rfl, hb⟩
        replace a0 := a0.below hb
        replace a1 := a1.below hb
        replace a2 := a2.below hb
        replace y0 := y0.below hb
        replace hB := hB.trans (hb.mono hB.size)
        clear hb 
        rw [← h3]
        clear h3
        go_wp2_with ((refine store_part rfl 83 _ _ rfl (off := 0) (cells := unc e3 (.slice none 0 0)) y0 rfl rfl sizeSg (Nat.le_refl _) (unc_one _ _ _ _) ?_; intro w9 b9 k9; rw [unc_all] at b9))
        go_meet
        replace a0 := a0.kp1 k9 (by omega)
        replace a1 := a1.kp1 k9 (by omega)
        replace a2 := a2.kp1 k9 (by omega)
        replace hB := hB.trans (k9.below1 (by omega) hB.size)
        exact ⟨rfl, b9, a0, a1, a2, hB⟩
      | false =>
        have h3 := h3n (by rw [Bool.and_comm]; exact hT1.out)
        rw [← h3] at y0
        clear h3y h3n hT1 h3
        go_wp2_with fail
        go_meet
        exact ⟨rfl, y0, a0, a1, a2, hB⟩
    case rest =>
      clear y0 a0 a1 a2 hB z0 x0 h3y h3n hT1
      obtain ⟨rfl, y0, a0, a1, a2, hB⟩ := hcut
      rename World => w7
      go_wp2_with (refine load_blk rfl 83 _ rfl y0 rfl Try.underlying83 rfl sizeSg ?_)
      have hy7 := y0.lt
      have hR0 : Rv [y, q + 1 + 1] w7.heap.size ⟨e3, L, []⟩ (.agg (unc e3 (.slice none 0 0))) w7 := by
        refine ⟨e.ka, e.kc, none, 0, ?_, lS.below hB, Lg.none _ _ _, (fun g hg => by cases hg), fun p hp => ?_⟩
        · show _ = Value.agg (unc (e3.kp e.ka L.length e.kc) _)
          rw [hk3e.out]
          rfl
        · simp at hp
          exact Off.li lS p (.inr (by omega))
      refine (pG _ _ hR0).mono ?_
      rintro r w8 ⟨v8, rfl, hR, hb⟩
      clear pG hR0
      obtain ⟨g, ta, tk, hgn, hgs, rfl, hL, hG, hO2, hO6⟩ := hR.open
      clear hR
      have hoy := hO6 y (by simp)
      have hoq := hO6 (q + 1 + 1) (by simp)
      have hgin := hG.in
      replace hG := hG.low (Nat.succ_le_of_lt hy7)
      replace a0 := a0.below hb
      replace a1 := a1.below hb
      replace a2 := a2.below hb
      replace y0 := y0.below hb
      replace hB := hB.trans (hb.mono hB.size)
      clear hb hO6
      obtain ⟨n1, hn1⟩ : ∃ n, S1.t.length = n := ⟨_, rfl⟩
      rw [hn1]
      have Hn1 : Hid (S1.t.length = n1) := hn1
      clear hn1
      go_upto_region 11 with (go_big_may; (refine store_part rfl 83 _ _ rfl (off := 0) (cells := unc g (.slice ta n1 tk)) y0 rfl rfl sizeSg (Nat.le_refl _) (unc_one _ _ _ _) ?_; intro w9 b9 k9; rw [unc_all] at b9))
      try simp only [Act.put]
      have hgy : y ∉ blkOf ta := fun hm => by have := hgin _ hm; omega
      have hgq : q + 1 + 1 ∉ blkOf ta := fun hm => by have := hgin _ hm; omega
      replace a0 := a0.kp1 k9 (by omega)
      replace a1 := a1.kp1 k9 (by omega)
      replace a2 := a2.kp1 k9 (by omega)
      replace hB := hB.trans (k9.below1 (by omega) hB.size)
      replace hL := hL.off k9 (fun p hp => by simp at hp; subst hp; exact hoy)
      replace hG := hG.away k9 hgy
      clear k9 y0
      have y0 := b9
      clear b9
      -- what g is
      obtain ⟨ga, gn, gk, hge⟩ := eq_kp hgs
      have hgS : g.self = (s : Int) := by rw [hge]; exact hsS
      have hgc : ∀ i, g.count i < 4294967296 := by rw [hge]; exact hfS.count
      have HSim := send_sim hgs S1.L S1.t f
      have hdid : ∀ r u, Did (sendS ⟨g, S1.L, S1.t⟩ f) (sendB g) 0 r u → Did (sendS S1 f) (sendB S1.c) 0 r u := fun r u h => by
        have h1 := HSim.2
        rw [← h1]
        exact h.sim HSim.1
      have HD : Hid (∀ r u, Did (sendS ⟨g, S1.L, S1.t⟩ f) (sendB g) 0 r u → Did (sendS S1 f) (sendB S1.c) 0 r u) := hdid
      clear hdid HSim hge hgs hsS hfS hf1 hs1 hk3e
      obtain ⟨n, hcn⟩ : ∃ n, g.count s = n := ⟨_, rfl⟩
      have hnlt : n < 4294967296 := by rw [← hcn]; exact hgc s
      have eo : ownN g = n := by rw [ownN, hgS, Int.toNat_natCast]; exact hcn
      obtain ⟨t, ht⟩ : ∃ t, Idn.same g.pr g.conf = t := ⟨_, rfl⟩
      have kI : ∀ w, (binOp .neq 27 (.agg g.pr.vals.toArray) (.agg g.conf.vals.toArray)).run Try.prog w = .ok (.bool (!t)) w := neqIdn _ _ t ht
      have pm := rmay_ok g.count g.mem hgc (s : Int)
      obtain ⟨M, hM⟩ : ∃ M, mayB g.count g.mem (s : Int) = M := ⟨_, rfl⟩
      rw [hM] at pm
      obtain ⟨Z, hZ⟩ : ∃ Z, decide (n = 4294967295) = Z := ⟨_, rfl⟩
      obtain ⟨T2, hT2⟩ : ∃ T, sendB g = T := ⟨_, rfl⟩
      have hT2' : T2 = (t && M && !Z) := by rw [← hT2, sendB, gathB, ht, hgS, hM, eo, hZ, Bool.not_not]
      have HZ : Hid (decide (n = 4294967295) = Z) := hZ
      have HNL : Hid (n < 4294967296) := hnlt
      have HGC : Hid (∀ i, g.count i < 4294967296) := hgc
      clear hZ hnlt hgc
      have c0 : w9.cell? ⟨q, 0, none⟩ = some (.int .i64 (s : Int)) := (a0.cell 0 (.int .i64 e.self) rfl).trans (by rw [hes])
      have c1 : w9.cell? ⟨y, 31 + s, none⟩ = some (.int .u32 (n : Int)) := (y0.cell (31 + s) (.int .u32 (g.count s : Int)) (by rw [unc_get _ _ _ (by omega)]; exact g.get_count s hs)).trans (by rw [hcn])
      have s0 : (s : Int) < 8 := by omega
      have s1 : (0 : Int) ≤ (s : Int) := by omega
      go_upto_region 12 with fail
      clear c1
      go_cut [91] from 68 to 90 (fun v wx => v = .bool (!T2) ∧ Below w9.heap.size w9 wx)
      case first =>
        clear HD hL hG
        cases t with
        | false =>
          obtain rfl : T2 = false := by rw [hT2']; rfl
          clear hT2' hT2
          clear pm
          go_wp2_with (have hyy := y0; first | refine load_part rfl 27 _ rfl (o := 40) y0 rfl g.pr.vals (un_pr _ _) Try.underlying27 rfl sizeIdn ?_ | (refine load_part rfl 27 _ rfl (o := 20) y0 rfl g.conf.vals (un_conf _ _) Try.underlying27 rfl sizeIdn ?_; clear y0))
          go_meet
          exact ⟨rfl, Below.refl _ _⟩
        | true =>
          go_wp2_with (first | refine load_part rfl 27 _ rfl (o := 40) y0 rfl g.pr.vals (un_pr _ _) Try.underlying27 rfl sizeIdn ?_ | refine load_part rfl 27 _ rfl (o := 20) y0 rfl g.conf.vals (un_conf _ _) Try.underlying27 rfl sizeIdn ?_ | refine load_wpart rfl 29 _ rfl (o := 31) y0 rfl (row8 g.count) (un_count _ _) Try.underlying29 rfl sizeCt ?_ | refine load_wpart rfl 28 _ rfl (o := 23) y0 rfl (row8 g.mem) (un_mem _ _) Try.underlying28 rfl sizeMb ?_)
          refine (pm _).mono ?_
          rintro r w10 ⟨rfl, hb⟩
          cases M with
          | false =>
            obtain rfl : T2 = false := by rw [hT2']; rfl
            clear hT2' hT2
            go_wp2_with fail
            go_meet
            exact ⟨rfl, hb⟩
          | true =>
            cases Z with
            | true =>
              obtain rfl : T2 = false := by rw [hT2']; rfl
              clear hT2' hT2
              have hw9 : IntKind.u32.wrap ((n : Int) + 1) = 0 := by rw [of_decide_eq_true HZ.out]; rfl
              go_wp2_with fail
              go_meet
              exact ⟨rfl, hb⟩
            | false =>
              obtain rfl : T2 = true := by rw [hT2']; rfl
              clear hT2' hT2
              have hw9 : IntKind.u32.wrap ((n : Int) + 1) = (n : Int) + 1 := by have h1 := of_decide_eq_false HZ.out; have h2 := HNL.out; rw [IntKind.wrap_u32]; omega
              have hw8 : ((n : Int) + 1 == 0) = false := by rw [beq_eq_false_iff_ne]; omega
              go_wp2_with fail
              go_meet
              exact ⟨rfl, hb⟩
      case rest =>
        obtain ⟨rfl, hb⟩ := hcut
        rename World => w10
        clear pm kI c0
        replace a0 := a0.below hb
        replace a1 := a1.below hb
        replace a2 := a2.below hb
        replace y0 := y0.below hb
        replace hL := hL.below hb
        replace hG := hG.below hb
        replace hB := hB.trans (hb.mono hB.size)
        clear hb 
        cases T2 with
        | false =>
          go_upto_region 13 with fail
          have hfin : ∀ u, Li Kt.vals 0 g.ka S1.L u → Lg Hp.vals 50 66 (y + 1) ta tk S1.t u → Did (sendS S1 f) (sendB S1.c) 0 (.returned (.tuple #[.agg (coc g), .bool false, (.slice ta n1 tk)])) u := fun u h1 h2 => by
            refine HD.out _ _ ?_
            rw [hT2]
            have e9 : sendS ⟨g, S1.L, S1.t⟩ f = ⟨g, S1.L, S1.t⟩ := by rw [sendS, hT2]; rfl
            rw [e9]
            refine ⟨g.ka, g.kc, ta, tk, ?_, h1, h2.li.mono (Nat.zero_le _)⟩
            show _ = Ending.returned (.tuple #[.agg (coc (g.kp g.ka S1.L.length g.kc)), .bool false, .slice ta S1.t.length tk])
            rw [kp_self g S1.L.length hgn, Hn1.out]
          have HFin : Hid (∀ u, Li Kt.vals 0 g.ka S1.L u → Lg Hp.vals 50 66 (y + 1) ta tk S1.t u → Did (sendS S1 f) (sendB S1.c) 0 (.returned (.tuple #[.agg (coc g), .bool false, (.slice ta n1 tk)])) u) := hfin
          clear hfin HD hT2 hT2'
          replace a2 := a2.drew
          replace hL := hL.below (Below.refl _ _).drew
          replace hG := hG.below (Below.refl _ _).drew
          replace hB := hB.drew
          refine wp_region_held_drew (S := fun w' => Blk y (unc g (.slice ta n1 tk)) 83 w') (by kernel_rfl) y0.drew (fun hHeld => ?_)
          refine tkH 0 (v := ?v1) rfl (by kernel_rfl) (fun _ _ _ h => h) (Or.inl ⟨by rfl, ?hy1⟩) hHeld ?rest1
          case hy1 => (intro w hSw; clear hSw; go_simp; try with_reducible rfl)
          try simp only [List.getElem_toArray, List.getElem_cons_succ, List.getElem_cons_zero, Act.put, List.setIfInBounds_toArray, List.set_cons_succ, List.set_cons_zero]
          refine' tkH 1 (v := _) rfl (by kernel_rfl) (fun _ _ _ h => h) (yieldsIf_load_mid (by rfl) _ _ rfl y 0 rfl (col g) _ ?hS2 Try.underlying35 rfl sizeCo) hHeld ?rest2
          case hS2 => exact fun w h => h.range 0 _ (unc_core _ _)
          try simp only [List.getElem_toArray, List.getElem_cons_succ, List.getElem_cons_zero, Act.put, List.setIfInBounds_toArray, List.set_cons_succ, List.set_cons_zero]
          refine tkH 2 (v := ?v3) rfl (by kernel_rfl) (fun _ _ _ h => h) (Or.inl ⟨by rfl, ?hy3⟩) hHeld ?rest3
          case hy3 => (intro w hSw; clear hSw; go_simp; try with_reducible rfl)
          try simp only [List.getElem_toArray, List.getElem_cons_succ, List.getElem_cons_zero, Act.put, List.setIfInBounds_toArray, List.set_cons_succ, List.set_cons_zero]
          refine tkH 3 (v := ?v4) rfl (by kernel_rfl) (fun _ _ _ h => h) (Or.inl ⟨by rfl, ?hy4⟩) hHeld ?rest4
          case hy4 => (intro w hSw; have hc : w.cell? ⟨y, 189, none⟩ = some ((.slice ta n1 tk)) := (hSw.cell 189 _ rfl); clear hSw; go_simp; try with_reducible rfl)
          try simp only [List.getElem_toArray, List.getElem_cons_succ, List.getElem_cons_zero, Act.put, List.setIfInBounds_toArray, List.set_cons_succ, List.set_cons_zero]
          refine wpAnyH_ready (rs := [4]) (by kernel_rfl) (by simp) ?_
          refine AllReadyH.cons rfl (fun K hK => ?_) (AllReadyH.nil)
          rw [if_pos (by rfl)]
          refine wp_store_all 35 _ _ rfl (cells := coc g) a2 rfl rfl sizeCo rfl (coc_one _) ?_
          intro u1 hn9 hk9
          replace a2 := hn9
          replace hL := hL.off hk9 (fun p hp => by simp at hp; subst hp; exact hoq)
          replace hG := hG.away hk9 hgq
          replace hB := hB.trans (hk9.below1 (by omega) hB.size)
          refine hK.out _ _ (hHeld.kp1 hk9 (by omega)) (fun hHeld => ?_)
          clear hK K hk9 hn9
          try simp only [List.getElem_toArray, List.getElem_cons_succ, List.getElem_cons_zero, Act.put, List.setIfInBounds_toArray, List.set_cons_succ, List.set_cons_zero]
          refine tkH 5 (v := ?v5) rfl (by kernel_rfl) (fun _ _ _ h => h) (Or.inl ⟨by rfl, ?hy5⟩) hHeld ?rest5
          case hy5 => (intro w hSw; clear hSw; go_simp; try with_reducible rfl)
          try simp only [List.getElem_toArray, List.getElem_cons_succ, List.getElem_cons_zero, Act.put, List.setIfInBounds_toArray, List.set_cons_succ, List.set_cons_zero]
          refine tkH 6 (v := ?v6) rfl (by kernel_rfl) (fun _ _ _ h => h) (Or.inl ⟨by rfl, ?hy6⟩) hHeld ?rest6
          case hy6 => (intro w hSw; clear hSw; go_simp; try with_reducible rfl)
          try simp only [List.getElem_toArray, List.getElem_cons_succ, List.getElem_cons_zero, Act.put, List.setIfInBounds_toArray, List.set_cons_succ, List.set_cons_zero]
          refine wpAnyH_done (by kernel_rfl) ?_ _
          go_wp2_with fail
          refine bodyPost_ret (v := .tuple #[.agg (coc g), .bool false, (.slice ta n1 tk)]) (ret_ctt rfl rfl a2 Try.underlying35 rfl sizeCo rfl rfl) rfl ⟨?_, hB⟩
          exact HFin.out _ hL hG
        | true =>
          obtain ⟨rfl, rfl, rfl⟩ : t = true ∧ M = true ∧ Z = false := by revert hT2'; cases t <;> cases M <;> cases Z <;> simp
          have hZ' : n ≠ 4294967295 := of_decide_eq_false HZ.out
          have hnlt := HNL.out
          obtain ⟨nx, hnx⟩ : ∃ v, n + 1 = v := ⟨_, rfl⟩
          have hw1 : IntKind.u32.wrap ((n : Int) + 1) = (nx : Int) := by rw [IntKind.wrap_u32]; omega
          have hnl : nx < 4294967296 := by omega
          obtain ⟨x, hx⟩ : ∃ x, (Kt.mk (s : Int) nx f hnl) = x := ⟨_, rfl⟩
          have hxk : nextK g f = x := by
            rw [← hx]
            unfold nextK
            have e9 : (ownN g + 1) % 4294967296 = nx := by rw [eo, hnx]; exact Nat.mod_eq_of_lt hnl
            simp only [hgS, e9]
          have htk : takesB g.count g.mem x = true := by
            have hm2 : isM g.mem (s : Int) = true := by
              have := hM
              unfold mayB at this
              rw [Bool.and_eq_true] at this
              exact this.1
            rw [← hx]
            unfold takesB
            rw [Bool.and_eq_true]
            refine ⟨hm2, ?_⟩
            rw [decide_eq_true_eq]
            show nx = g.count (s : Int).toNat + 1
            rw [Int.toNat_natCast, hcn]
            exact hnx.symm
          have HF : Hid (sendS ⟨g, S1.L, S1.t⟩ f = ⟨g.wCount (takeC g.count x), takeL S1.L x, S1.t ++ [takeH x]⟩) := by
            show sendS ⟨g, S1.L, S1.t⟩ f = _
            rw [sendS, hT2, if_pos rfl, sentS, hxk]
          have Hx : Hid ((Kt.mk (s : Int) nx f hnl) = x) := hx
          have HT2 : Hid (sendB g = true) := hT2
          clear hT2 hT2' HZ hZ' hnlt HNL hM hxk hnx eo hcn ht hx
          have c0 : w10.cell? ⟨q, 0, none⟩ = some (.int .i64 (s : Int)) := (a0.cell 0 (.int .i64 e.self) rfl).trans (by rw [hes])
          have hb := below_box w10 (.cells (Kt.mk (s : Int) nx f hnl).arr 64)
          have k0 := blk_new w10 (Kt.mk (s : Int) nx f hnl).arr 64
          have h_k := y0.lt
          go_upto_region 15 with (go_big_may; first | refine load_blk rfl 41 _ rfl a1 rfl Try.underlying41 rfl sizeFr ?_ | (refine build_as rfl 64 #[(0, .tmp 97), (1, .tmp 99), (2, .tmp 100)] rfl (C := (Kt.mk (s : Int) nx f hnl).arr) ?_ ?_; kernel_rfl) | refine alloc_zero zeroKt rfl rfl ?_ | refine store_new rfl 64 _ _ rfl (cells := (Kt.mk (s : Int) nx f hnl).arr) rfl rfl sizeKt rfl (Kt.arr_one _) ?_)
          try simp only [Act.put, List.setIfInBounds_toArray, List.set_cons_zero, List.set_cons_succ]
          generalize w10.alloc (Obj.cells (Kt.mk (s : Int) nx f hnl).arr 64) = W10 at k0 hb ⊢
          replace a0 := a0.below hb
          replace a1 := a1.below hb
          replace a2 := a2.below hb
          replace y0 := y0.below hb
          replace hL := hL.below hb
          replace hG := hG.below hb
          replace hB := hB.trans (hb.mono hB.size)
          clear hb c0
          generalize w10.heap.size = xk at k0 h_k ⊢
          rw [Hx.out] at k0
          clear Hx hw1
          -- take
          have c0 : W10.cell? ⟨y, 39, none⟩ = some (.slice g.ka S1.L.length g.kc) := (y0.cell 39 (.slice g.ka g.kn g.kc) rfl).trans (by rw [hgn])
          have hlt : (S1.L.length + 1) * 352 ≤ 140737488355328 := by omega
          have hkl := k0.lt
          go_wp2_with (first | refine load_part rfl 29 _ rfl (o := 31) y0 rfl (row8 g.count) (un_count _ _) Try.underlying29 rfl sizeCt ?_ | refine load_part rfl 28 _ rfl (o := 23) y0 rfl (row8 g.mem) (un_mem _ _) Try.underlying28 rfl sizeMb ?_ | refine load_blk rfl 64 _ rfl k0 rfl Try.underlying64 rfl sizeKt ?_)
          refine (rtake_yes S1.L g.ka g.kc g.count g.mem x HGC.out hlt htk _ hL).mono ?_
          rintro r w11 ⟨⟨a3, k3, rfl, hL3⟩, hb⟩
          clear hL
          have hsz11 := hb.size
          have o3y := Off.li hL3 y (.inl (by omega))
          have o3q := Off.li hL3 (q + 1 + 1) (.inl (by omega))
          have o3t : ∀ p ∈ blkOf ta, Off a3 (takeL S1.L x) p := fun p hp => Off.li hL3 p (.inl (hG.in p hp).2)
          replace a0 := a0.below hb
          replace a1 := a1.below hb
          replace a2 := a2.below hb
          replace y0 := y0.below hb
          replace hG := hG.below hb
          replace k0 := k0.below hb
          replace hB := hB.trans (hb.mono hB.size)
          clear hb c0
          have hL := hL3.mono (Nat.zero_le _)
          clear hL3
          have hb := below_box w11 (.cells (mbc (takeC g.count x)) 29)
          have t0 := blk_new w11 (mbc (takeC g.count x)) 29
          have h_t := y0.lt
          go_upto_region 16 with (go_big_may; first | refine alloc_zero zeroCt rfl rfl ?_ | refine store_new rfl 29 _ _ rfl (cells := mbc (takeC g.count x)) rfl rfl sizeCt rfl (mbc_one _) ?_)
          try simp only [Act.put, List.setIfInBounds_toArray, List.set_cons_zero, List.set_cons_succ]
          generalize w11.alloc (Obj.cells (mbc (takeC g.count x)) 29) = W11 at t0 hb ⊢
          replace a0 := a0.below hb
          replace a1 := a1.below hb
          replace a2 := a2.below hb
          replace y0 := y0.below hb
          replace hL := hL.below hb
          replace hG := hG.below hb
          replace k0 := k0.below hb
          replace hB := hB.trans (hb.mono hB.size)
          clear hb 
          generalize w11.heap.size = tt at t0 h_t hsz11 ⊢
          go_upto_region 17 with (go_big_may; (refine store_one rfl 30 _ _ rfl (off := 39) (.slice a3 (takeL S1.L x).length k3) y0 rfl rfl rfl rfl sizeSl (by rw [unc_size]; decide) ?_; intro w12 b12 k12; rw [unc_set _ _ _ 39 _ (Co.s_kept g a3 (takeL S1.L x).length k3) (by decide)] at b12))
          try simp only [Act.put]
          replace a0 := a0.kp1 k12 (by omega)
          replace a1 := a1.kp1 k12 (by omega)
          replace a2 := a2.kp1 k12 (by omega)
          replace t0 := t0.kp1 k12 (by omega)
          replace k0 := k0.kp1 k12 (by omega)
          replace hB := hB.trans (k12.below1 (by omega) hB.size)
          replace hL := hL.off k12 (fun p hp => by simp at hp; subst hp; exact o3y)
          replace hG := hG.away k12 hgy
          clear k12 y0
          obtain ⟨g1, hg1, y1⟩ := name_blk b12
          clear b12
          go_upto_region 18 with (go_big_may; first | refine load_blk rfl 29 _ rfl t0 rfl Try.underlying29 rfl sizeCt ?_ | (refine store_part rfl 29 _ _ rfl (off := 31) (cells := (mbc (takeC g.count x))) y1 rfl rfl sizeCt (show 31 + 8 ≤ 190 by decide) (mbc_one _) ?_; intro w13 b13 k13; rw [unc_put _ _ _ 31 _ (Co.s_count g1 (takeC g.count x)) (show 31 + 8 ≤ 189 by decide)] at b13))
          try simp only [Act.put]
          replace a0 := a0.kp1 k13 (by omega)
          replace a1 := a1.kp1 k13 (by omega)
          replace a2 := a2.kp1 k13 (by omega)
          replace k0 := k0.kp1 k13 (by omega)
          replace hB := hB.trans (k13.below1 (by omega) hB.size)
          replace hL := hL.off k13 (fun p hp => by simp at hp; subst hp; exact o3y)
          replace hG := hG.away k13 hgy
          clear k13 y1 t0
          obtain ⟨g2, hg2, y2⟩ := name_blk b13
          clear b13
          have Hg2 : Hid (g2 = (g.wCount (takeC g.count x)).kp a3 (takeL S1.L x).length k3) := by
            show g2 = _
            rw [← hg2.out, ← hg1.out]
            rfl
          clear hg1 hg2
          -- tell
          have p1 := y2.cell 189 (.slice ta n1 tk) rfl
          have g5 := hG.below (below_box w13 (.cells (takeH x).arr 66))
          have b5 := blk_new w13 (takeH x).arr 66
          have hb5 := below_box w13 (.cells (takeH x).arr 66)
          have hs5 : (w13.alloc (.cells (takeH x).arr 66)).heap.size = w13.heap.size + 1 := alloc_size _ _
          have hx5 := (li_one b5).src (P := Try.prog) Hp.vals_length Hp.vals_one Try.underlying44 1
          have q5 := y2.below hb5
          have hy2 := y2.lt
          have hB5 := hB.size
          have hn1l : n1 ≤ 1 := by have := hlS.2; rw [Hn1.out] at this; omega
          go_upto_region 19 with (go_big_may; first | refine load_blk rfl 64 _ rfl k0 rfl Try.underlying64 rfl sizeKt ?_ | (refine build_as rfl 66 #[(1, .tmp 125)] rfl (C := (takeH x).arr) ?_ ?_; kernel_rfl) | refine box_hp rfl _ rfl (takeH x) rfl ?_ | (refine append_ln Hp.vals_length rfl _ _ rfl Try.underlying44 hI hz0 hsz hby hzs g5 (by omega) Hn1.out rfl (M := [takeH x]) (by simp) hx5 rfl (by simp; omega) (by simp [maxLen]; omega) ?_; intro td tj w14 hG6 hk6 hA6; have q6 := q5.kp hk6 hgy) | (refine store_one rfl 44 _ _ rfl (off := 189) (.slice td (n1 + 1) tj) q6 rfl rfl rfl rfl sizeHs (by rw [unc_size]; decide) ?_; intro w15 q7 k15; rw [unc_told] at q7))
          try simp only [Act.put]
          have hal := a2.lt
          have hdy : y ∉ blkOf td := fun hm => by
            rcases hA6 _ hm with h | h
            · exact hgy h
            · omega
          have hdq : q + 1 + 1 ∉ blkOf td := fun hm => by
            rcases hA6 _ hm with h | h
            · exact hgq h
            · omega
          have hoL := o3t
          replace a2 := ((a2.below hb5).kp hk6 hgq).kp1 k15 (by omega)
          replace hL := ((hL.below hb5).off hk6 hoL).off k15 (fun p hp => by simp at hp; subst hp; exact o3y)
          replace hG6 := hG6.away k15 hdy
          replace hB := ((hB.trans (hb5.mono (by omega))).trans (hk6.below (fun i hi => by have := hgin i hi; omega) (by omega))).trans (k15.below1 (by omega) (by have := hk6.size; omega))
          clear hG hgq hgy p1 g5 b5 hb5 hs5 hx5 q5 q6 y2 k15 hk6 k0 a0 a1 hoq
          have hG := hG6
          have y0 := q7
          have hoq := o3q
          have hgq := hdq
          clear hG6 q7
          have hfin : ∀ u, Li Kt.vals 0 a3 (takeL S1.L x) u → Lg Hp.vals 50 66 (y + 1) td tj (S1.t ++ [takeH x]) u → Did (sendS S1 f) (sendB S1.c) 0 (.returned (.tuple #[.agg (coc g2), .bool true, .slice td (n1 + 1) tj])) u := fun u h1 h2 => by
            refine HD.out _ _ ?_
            rw [HT2.out, HF.out]
            refine ⟨a3, k3, td, tj, ?_, h1, h2.li.mono (Nat.zero_le _)⟩
            show _ = Ending.returned (.tuple #[.agg (coc ((g.wCount (takeC g.count x)).kp a3 (takeL S1.L x).length k3)), .bool true, .slice td (S1.t ++ [takeH x]).length tj])
            rw [← Hg2.out, List.length_append, Hn1.out]
            rfl
          have HFin : Hid (∀ u, Li Kt.vals 0 a3 (takeL S1.L x) u → Lg Hp.vals 50 66 (y + 1) td tj (S1.t ++ [takeH x]) u → Did (sendS S1 f) (sendB S1.c) 0 (.returned (.tuple #[.agg (coc g2), .bool true, .slice td (n1 + 1) tj])) u) := hfin
          clear hfin HD HF HT2 Hg2
          replace a2 := a2.drew
          replace hL := hL.below (Below.refl _ _).drew
          replace hG := hG.below (Below.refl _ _).drew
          replace hB := hB.drew
          refine wp_region_held_drew (S := fun w' => Blk y (unc g2 (.slice td (n1 + 1) tj)) 83 w') (by kernel_rfl) y0.drew (fun hHeld => ?_)
          refine tkH 0 (v := ?v7) rfl (by kernel_rfl) (fun _ _ _ h => h) (Or.inl ⟨by rfl, ?hy7⟩) hHeld ?rest7
          case hy7 => (intro w hSw; clear hSw; go_simp; try with_reducible rfl)
          try simp only [List.getElem_toArray, List.getElem_cons_succ, List.getElem_cons_zero, Act.put, List.setIfInBounds_toArray, List.set_cons_succ, List.set_cons_zero]
          refine' tkH 1 (v := _) rfl (by kernel_rfl) (fun _ _ _ h => h) (yieldsIf_load_mid (by rfl) _ _ rfl y 0 rfl (col g2) _ ?hS8 Try.underlying35 rfl sizeCo) hHeld ?rest8
          case hS8 => exact fun w h => h.range 0 _ (unc_core _ _)
          try simp only [List.getElem_toArray, List.getElem_cons_succ, List.getElem_cons_zero, Act.put, List.setIfInBounds_toArray, List.set_cons_succ, List.set_cons_zero]
          refine tkH 2 (v := ?v9) rfl (by kernel_rfl) (fun _ _ _ h => h) (Or.inl ⟨by rfl, ?hy9⟩) hHeld ?rest9
          case hy9 => (intro w hSw; clear hSw; go_simp; try with_reducible rfl)
          try simp only [List.getElem_toArray, List.getElem_cons_succ, List.getElem_cons_zero, Act.put, List.setIfInBounds_toArray, List.set_cons_succ, List.set_cons_zero]
          refine tkH 3 (v := ?v10) rfl (by kernel_rfl) (fun _ _ _ h => h) (Or.inl ⟨by rfl, ?hy10⟩) hHeld ?rest10
          case hy10 => (intro w hSw; have hc : w.cell? ⟨y, 189, none⟩ = some ((.slice td (n1 + 1) tj)) := (hSw.cell 189 _ rfl); clear hSw; go_simp; try with_reducible rfl)
          try simp only [List.getElem_toArray, List.getElem_cons_succ, List.getElem_cons_zero, Act.put, List.setIfInBounds_toArray, List.set_cons_succ, List.set_cons_zero]
          refine wpAnyH_ready (rs := [4]) (by kernel_rfl) (by simp) ?_
          refine AllReadyH.cons rfl (fun K hK => ?_) (AllReadyH.nil)
          rw [if_pos (by rfl)]
          refine wp_store_all 35 _ _ rfl (cells := coc g2) a2 rfl rfl sizeCo rfl (coc_one _) ?_
          intro u1 hn9 hk9
          replace a2 := hn9
          replace hL := hL.off hk9 (fun p hp => by simp at hp; subst hp; exact hoq)
          replace hG := hG.away hk9 hgq
          replace hB := hB.trans (hk9.below1 (by omega) hB.size)
          refine hK.out _ _ (hHeld.kp1 hk9 (by omega)) (fun hHeld => ?_)
          clear hK K hk9 hn9
          try simp only [List.getElem_toArray, List.getElem_cons_succ, List.getElem_cons_zero, Act.put, List.setIfInBounds_toArray, List.set_cons_succ, List.set_cons_zero]
          refine tkH 5 (v := ?v11) rfl (by kernel_rfl) (fun _ _ _ h => h) (Or.inl ⟨by rfl, ?hy11⟩) hHeld ?rest11
          case hy11 => (intro w hSw; clear hSw; go_simp; try with_reducible rfl)
          try simp only [List.getElem_toArray, List.getElem_cons_succ, List.getElem_cons_zero, Act.put, List.setIfInBounds_toArray, List.set_cons_succ, List.set_cons_zero]
          refine tkH 6 (v := ?v12) rfl (by kernel_rfl) (fun _ _ _ h => h) (Or.inl ⟨by rfl, ?hy12⟩) hHeld ?rest12
          case hy12 => (intro w hSw; clear hSw; go_simp; try with_reducible rfl)
          try simp only [List.getElem_toArray, List.getElem_cons_succ, List.getElem_cons_zero, Act.put, List.setIfInBounds_toArray, List.set_cons_succ, List.set_cons_zero]
          refine wpAnyH_done (by kernel_rfl) ?_ _
          go_wp2_with fail
          refine bodyPost_ret (v := .tuple #[.agg (coc g2), .bool true, (.slice td (n1 + 1) tj)]) (ret_ctt rfl rfl a2 Try.underlying35 rfl sizeCo rfl rfl) rfl ⟨?_, hB⟩
          exact HFin.out _ hL hG

end Go.Proofs.Ythgmecgknhphmaa
