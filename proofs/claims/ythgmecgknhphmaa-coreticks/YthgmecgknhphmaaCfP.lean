/-
  What a core sends, as the document's own call says (congressref13.Packet).
  Of a Self from 0 to 7; its numbers are such as its types hold; what it keeps takes no more bytes than a list may.
-/
import Derived.Test.YthgmecgknhphmaaCeK
import Derived.Test.YthgmecgknhphmaaCeZ
namespace Go.Proofs.Ythgmecgknhphmaa
set_option maxRecDepth 10000
open Go.RowKit Go.Sort
set_option linter.unusedVariables false

set_option maxRecDepth 60000 in
set_option maxHeartbeats 8000000 in
theorem dpacket_ok (c : Co) (L : List Kt) (s : Nat) (hs : s < 8) (hcs : c.self = (s : Int)) (kb : c.beat.now < 4294967296) (kc : ∀ i, c.count i < 4294967296) (hn : c.kn = L.length) (hl : L.length * 352 ≤ 140737488355328) (w : World) (lS : Li Kt.vals 0 c.ka L w) :
    Calls Try.prog 16 #[.agg (coc c)] w fun e w' => e = .returned (.agg (pwc (packW c L))) ∧ Below w.heap.size w w' := by
  obtain ⟨a0, a1, hB⟩ := two_blk (T0 := 35) (T1 := 50) (C0 := coc c) (C1 := pwc Pw.zero) (w := w) rfl
  have lm : L.length ≤ 9223372036854775807 := by omega
  have eo : ownN c = c.count s := by rw [ownN, hcs, Int.toNat_natCast]
  obtain ⟨o, ho⟩ : ∃ o, ownN c = o := ⟨_, rfl⟩
  have holt : o < 4294967296 := by rw [← ho, eo]; exact kc s
  obtain ⟨g, hg⟩ : ∃ t, gathB c = t := ⟨_, rfl⟩
  obtain ⟨C1, hC1⟩ : ∃ C, Hid ((if g = true then c.cut else c.count) = C) := ⟨_, rfl⟩
  obtain ⟨G0, hG0⟩ : ∃ G, Hid (gotF (getK (s : Int) o L) = G) := ⟨_, rfl⟩
  obtain ⟨G1, hG1⟩ : ∃ G, Hid ((if 0 < o then gotF (getK (s : Int) (o - 1) L) else noFr) = G) := ⟨_, rfl⟩
  obtain ⟨Kx, hK⟩ : ∃ Kx, Hid (pickK L c.beat.now = Kx) := ⟨_, rfl⟩
  obtain ⟨E, hE⟩ : ∃ E, L.isEmpty = E := ⟨_, rfl⟩
  obtain ⟨ko, hko⟩ : ∃ k, Hid ((Kx.fr % 4294967296).toNat = k) := ⟨_, rfl⟩
  have hw9 : IntKind.u32.wrap Kx.fr = (ko : Int) := by rw [IntKind.wrap_u32, ← hko.out]; omega
  obtain ⟨R0, hR0⟩ : ∃ k, Hid ((if E = true then 0 else ko) = k) := ⟨_, rfl⟩
  obtain ⟨R1, hR1⟩ : ∃ k, Hid ((if E = true then 0 else Kx.rd) = k) := ⟨_, rfl⟩
  obtain ⟨R2, hR2⟩ : ∃ k, Hid ((if E = true then noFr else Kx.f) = k) := ⟨_, rfl⟩
  have ef : packW c L = (Pw.mk s c.own c.conf c.mem C1 c.pr c.want c.rdy c.epoch o G0 G1 R0 R1 R2) := by
    unfold packW relO relR relF
    rw [hE, ho, hcs, hK.out, hg, hC1.out, hG0.out, hG1.out, hko.out, hR0.out, hR1.out, hR2.out]
    rfl
  rw [ef]
  have pA := fun (u : World) (h : Li Kt.vals 0 c.ka L u) => rget_ok L c.ka c.kc (s : Int) o lm u h
  have pB := fun (u : World) (h : Li Kt.vals 0 c.ka L u) => rget_ok L c.ka c.kc (s : Int) (o - 1) lm u h
  have pC := fun (u : World) (h : Li Kt.vals 0 c.ka L u) => rpick_ok L c.ka c.kc c.beat.now kb lm u h
  rw [hG0.out] at pA
  rw [hK.out, hE] at pC
  have hws : IntKind.u32.wrap (s : Int) = (s : Int) := by rw [IntKind.wrap_u32]; omega
  have hoc : c.count s = o := by rw [← eo]; exact ho
  obtain ⟨t, ht⟩ : ∃ t, Idn.same c.pr c.conf = t := ⟨_, rfl⟩
  have hgt : g = !t := by rw [← hg, gathB, ht]
  have kI : ∀ w, (binOp .neq 27 (.agg c.pr.vals.toArray) (.agg c.conf.vals.toArray)).run Try.prog w = .ok (.bool (!t)) w := neqIdn _ _ t ht
  rw [← hgt] at kI
  have s0 : (s : Int) < 8 := by omega
  have s1 : (0 : Int) ≤ (s : Int) := by omega
  have Hlt : Hid (o < 4294967296) := holt
  clear ef eo ho hg hE hK hko ht hgt holt kb kc hl lm
  go_enter Try.func16, Try.ntmps16
  go_upto_region 1 with (go_big_may; refine alloc_zero zeroPw rfl rfl ?_)
  try simp only [Act.put, List.setIfInBounds_toArray, List.set_cons_zero, List.set_cons_succ]
  try simp only [alloc_size]
  generalize (w.alloc (Obj.cells (coc c) 35)).alloc (Obj.cells (pwc Pw.zero) 50) = W at a0 a1 hB ⊢
  obtain ⟨q, hq⟩ : ∃ q, w.heap.size = q := ⟨_, rfl⟩
  rw [hq] at a0 a1 ⊢
  have c0 : W.cell? ⟨q, 0, none⟩ = some (.int .i64 (s : Int)) := (a0.cell 0 (.int .i64 c.self) rfl).trans (by rw [hcs])
  have c1 := a0.cell 2 (.int .u32 (c.own : Int)) rfl
  have c2 := a0.cell 59 (.bool c.rdy) rfl
  have c3 := a0.cell 188 (.int .u32 (c.epoch : Int)) rfl
  have hW := a1.lt
  have hb := below_box W (.cells (pwc (Pw.mk s c.own c.conf c.mem c.count c.pr c.want c.rdy c.epoch 0 noFr noFr 0 0 noFr)) 50)
  have x0 := blk_new W (pwc (Pw.mk s c.own c.conf c.mem c.count c.pr c.want c.rdy c.epoch 0 noFr noFr 0 0 noFr)) 50
  go_upto_region 2 with (go_big_may; first | refine load_part rfl 27 _ rfl (o := 20) a0 rfl c.conf.vals c.p_conf Try.underlying27 rfl sizeIdn ?_ | refine load_part rfl 28 _ rfl (o := 23) a0 rfl (row8 c.mem) c.p_mem Try.underlying28 rfl sizeMb ?_ | refine load_part rfl 29 _ rfl (o := 31) a0 rfl (row8 c.count) c.p_count Try.underlying29 rfl sizeCt ?_ | refine load_part rfl 27 _ rfl (o := 40) a0 rfl c.pr.vals c.p_pr Try.underlying27 rfl sizeIdn ?_ | refine load_part rfl 28 _ rfl (o := 43) a0 rfl (row8 c.want) c.p_want Try.underlying28 rfl sizeMb ?_ | (refine build_as rfl 50 #[(0, .tmp 12), (1, .tmp 14), (2, .tmp 16), (3, .tmp 18), (4, .tmp 20), (5, .tmp 22), (6, .tmp 24), (7, .tmp 26), (8, .tmp 28)] rfl (C := pwc (Pw.mk s c.own c.conf c.mem c.count c.pr c.want c.rdy c.epoch 0 noFr noFr 0 0 noFr)) ?_ ?_; kernel_rfl) | refine alloc_zero zeroPw rfl rfl ?_ | refine store_new rfl 50 _ _ rfl (cells := pwc (Pw.mk s c.own c.conf c.mem c.count c.pr c.want c.rdy c.epoch 0 noFr noFr 0 0 noFr)) rfl rfl sizePk rfl (pwc_one _) ?_)
  try simp only [Act.put, List.setIfInBounds_toArray, List.set_cons_zero, List.set_cons_succ]
  generalize W.alloc (Obj.cells (pwc (Pw.mk s c.own c.conf c.mem c.count c.pr c.want c.rdy c.epoch 0 noFr noFr 0 0 noFr)) 50) = W1 at x0 hb ⊢
  replace a0 := a0.below hb
  replace a1 := a1.below hb
  replace hB := hB.trans (hb.mono hB.size)
  clear hb c0 c1 c2 c3
  generalize W.heap.size = p at x0 hW ⊢
  have c0 : W1.cell? ⟨q, 0, none⟩ = some (.int .i64 (s : Int)) := (a0.cell 0 (.int .i64 c.self) rfl).trans (by rw [hcs])
  have c1 : W1.cell? ⟨q, 31 + s, none⟩ = some (.int .u32 (o : Int)) := (a0.cell (31 + s) _ (c.get_count s hs)).trans (by rw [hoc])
  go_upto_region 3 with (go_big_may; (refine store_one rfl 22 _ _ rfl (off := 34) (.int .u32 (o : Int)) x0 rfl rfl rfl rfl sizeU32 (by rw [pwc_size]; decide) ?_; intro w2 x2 k2; rw [Pw.s_rd] at x2))
  try simp only [Act.put]
  replace a0 := a0.kp1 k2 (by omega)
  replace a1 := a1.kp1 k2 (by omega)
  replace hB := hB.trans (k2.below1 (by omega) hB.size)
  clear k2
  clear x0 c0 c1
  have x0 : Blk p (pwc (Pw.mk s c.own c.conf c.mem c.count c.pr c.want c.rdy c.epoch o noFr noFr 0 0 noFr)) 50 w2 := x2
  clear x2
  go_upto_if 40 with (go_big_may; first | refine load_part rfl 27 _ rfl (o := 40) a0 rfl c.pr.vals c.p_pr Try.underlying27 rfl sizeIdn ?_ | refine load_part rfl 27 _ rfl (o := 20) a0 rfl c.conf.vals c.p_conf Try.underlying27 rfl sizeIdn ?_)
  go_cut [3] from 41 to 43 (fun v wx => v = .pointer (some ⟨p, 0, none⟩) ∧ Blk p (pwc (Pw.mk s c.own c.conf c.mem C1 c.pr c.want c.rdy c.epoch o noFr noFr 0 0 noFr)) 50 wx ∧ Blk q (coc c) 35 wx ∧ Blk (q + 1) (pwc Pw.zero) 50 wx ∧ Below w.heap.size w wx)
  case first =>
    cases g with
    | true =>
      obtain rfl : C1 = c.cut := hC1.out.symm
      clear hC1
      go_wp2_with (first | refine load_part rfl 29 _ rfl (o := 51) a0 rfl (row8 c.cut) c.p_cut Try.underlying29 rfl sizeCt ?_ | (refine store_part rfl 29 _ _ rfl (off := 13) (cells := (mbc c.cut)) x0 rfl rfl sizeCt (show 13 + 8 ≤ 145 by decide) (mbc_one _) ?_; intro w3 x3 k3; rw [Pw.s_count] at x3))
      go_meet
      replace a0 := a0.kp1 k3 (by omega)
      replace a1 := a1.kp1 k3 (by omega)
      replace hB := hB.trans (k3.below1 (by omega) hB.size)
      clear k3
      exact ⟨rfl, x3, a0, a1, hB⟩
    | false =>
      obtain rfl : C1 = c.count := hC1.out.symm
      clear hC1
      go_wp2_with fail
      go_meet
      exact ⟨rfl, x0, a0, a1, hB⟩
  case rest =>
    clear x0 a0 a1 hB
    obtain ⟨rfl, x0, a0, a1, hB⟩ := hcut
    rename World => WN
    clear hC1 kI
    have c1 := a0.cell 39 (.slice c.ka c.kn c.kc) rfl
    rw [hn] at c1
    have c2 := a0.cell 0 (.int .i64 c.self) rfl
    rw [hcs] at c2
    have c3 := x0.cell 34 (.int .u32 (o : Int)) rfl
    go_wp2_with fail
    refine (pA _ (lS.below hB)).mono ?_
    rintro r w4 ⟨rfl, hb⟩
    replace x0 := x0.below hb
    replace a0 := a0.below hb
    replace a1 := a1.below hb
    replace hB := hB.trans (hb.mono hB.size)
    clear hb pA c1 c2 c3
    have hb := below_box w4 (.cells (frc G0) 41)
    have f0 := blk_new w4 (frc G0) 41
    have h_pf := x0.lt
    go_upto_region 6 with (go_big_may; first | refine alloc_zero zeroFr rfl rfl ?_ | refine store_new rfl 41 _ _ rfl (cells := (frc G0)) rfl rfl sizeFr rfl (frc_one _) ?_)
    try simp only [Act.put, List.setIfInBounds_toArray, List.set_cons_zero, List.set_cons_succ]
    generalize w4.alloc (Obj.cells (frc G0) 41) = W4 at f0 hb ⊢
    replace x0 := x0.below hb
    replace a0 := a0.below hb
    replace a1 := a1.below hb
    replace hB := hB.trans (hb.mono hB.size)
    clear hb 
    generalize w4.heap.size = pf at f0 h_pf ⊢
    go_upto_region 7 with (go_big_may; first | refine load_blk rfl 41 _ rfl f0 rfl Try.underlying41 rfl sizeFr ?_ | (refine store_part rfl 41 _ _ rfl (off := 35) (cells := (frc G0)) x0 rfl rfl sizeFr (show 35 + 36 ≤ 145 by decide) (frc_one _) ?_; intro w5 x5 k5; rw [Pw.s_f0] at x5))
    try simp only [Act.put]
    replace a0 := a0.kp1 k5 (by omega)
    replace a1 := a1.kp1 k5 (by omega)
    replace hB := hB.trans (k5.below1 (by omega) hB.size)
    clear k5
    clear x0 f0
    have x0 : Blk p (pwc (Pw.mk s c.own c.conf c.mem C1 c.pr c.want c.rdy c.epoch o G0 noFr 0 0 noFr)) 50 w5 := x5
    clear x5
    have c3 := x0.cell 34 (.int .u32 (o : Int)) rfl
    obtain ⟨T0, hT0⟩ : ∃ T, Hid (decide (0 < o) = T) := ⟨_, rfl⟩
    go_cut [58] from 56 to 57 (fun v wx => v = .bool T0 ∧ wx = w5)
    case first =>
      by_cases h0 : 0 < o
      · have g0 : (0 : Int) < (o : Int) := by omega
        obtain rfl : T0 = true := by rw [← hT0.out]; simp [h0]
        go_wp2_with fail
        go_meet
        exact ⟨rfl, rfl⟩
      · have g0 : ¬ (0 : Int) < (o : Int) := by omega
        obtain rfl : T0 = false := by rw [← hT0.out]; simp [h0]
        go_wp2_with fail
        go_meet
        exact ⟨rfl, rfl⟩
    case rest =>
    obtain ⟨rfl, rfl⟩ := hcut
    go_upto_if 58 with fail
    go_cut [3] from 59 to 71 (fun v wx => v = .pointer (some ⟨p, 0, none⟩) ∧ Blk p (pwc (Pw.mk s c.own c.conf c.mem C1 c.pr c.want c.rdy c.epoch o G0 G1 0 0 noFr)) 50 wx ∧ Blk q (coc c) 35 wx ∧ Blk (q + 1) (pwc Pw.zero) 50 wx ∧ Below w.heap.size w wx)
    case first =>
      by_cases h0 : 0 < o
      · obtain rfl : T0 = true := by rw [← hT0.out]; simp [h0]
        obtain rfl : G1 = gotF (getK (s : Int) (o - 1) L) := by rw [← hG1.out, if_pos h0]
        obtain ⟨o1, ho1⟩ : ∃ v, o - 1 = v := ⟨_, rfl⟩
        have hw2 : IntKind.u32.wrap ((o : Int) - 1) = (o1 : Int) := by have := Hlt.out; rw [IntKind.wrap_u32]; omega
        rw [ho1] at pB
        have HG : Hid (gotF (getK (s : Int) (o - 1) L) = gotF (getK (s : Int) o1 L)) := by show _ = _; rw [ho1]
        clear hG1 ho1
        have c1 := a0.cell 39 (.slice c.ka c.kn c.kc) rfl
        rw [hn] at c1
        have c2 := a0.cell 0 (.int .i64 c.self) rfl
        rw [hcs] at c2
        go_wp2_with fail
        refine (pB _ (lS.below hB)).mono ?_
        rintro r w6 ⟨rfl, hb⟩
        replace x0 := x0.below hb
        replace a0 := a0.below hb
        replace a1 := a1.below hb
        replace hB := hB.trans (hb.mono hB.size)
        clear hb pB c1 c2 c3
        obtain ⟨G9, hG9⟩ : ∃ G, Hid (gotF (getK (s : Int) o1 L) = G) := ⟨_, rfl⟩
        rw [hG9.out]
        rw [hG9.out] at HG
        have hb := below_box w6 (.cells (frc G9) 41)
        have f1 := blk_new w6 (frc G9) 41
        have h_pg := x0.lt
        go_upto_region 9 with (go_big_may; first | refine alloc_zero zeroFr rfl rfl ?_ | refine store_new rfl 41 _ _ rfl (cells := (frc G9)) rfl rfl sizeFr rfl (frc_one _) ?_)
        try simp only [Act.put, List.setIfInBounds_toArray, List.set_cons_zero, List.set_cons_succ]
        generalize w6.alloc (Obj.cells (frc G9) 41) = W6 at f1 hb ⊢
        replace x0 := x0.below hb
        replace a0 := a0.below hb
        replace a1 := a1.below hb
        replace hB := hB.trans (hb.mono hB.size)
        clear hb 
        generalize w6.heap.size = pg at f1 h_pg ⊢
        go_wp2_with (first | refine load_blk rfl 41 _ rfl f1 rfl Try.underlying41 rfl sizeFr ?_ | (refine store_part rfl 41 _ _ rfl (off := 71) (cells := (frc G9)) x0 rfl rfl sizeFr (show 71 + 36 ≤ 145 by decide) (frc_one _) ?_; intro w7 x7 k7; rw [Pw.s_f1] at x7))
        go_meet
        replace a0 := a0.kp1 k7 (by omega)
        replace a1 := a1.kp1 k7 (by omega)
        replace hB := hB.trans (k7.below1 (by omega) hB.size)
        clear k7
        exact ⟨rfl, by rw [HG.out]; exact x7, a0, a1, hB⟩
      · obtain rfl : T0 = false := by rw [← hT0.out]; simp [h0]
        obtain rfl : G1 = noFr := by rw [← hG1.out, if_neg h0]
        go_wp2_with fail
        go_meet
        exact ⟨rfl, x0, a0, a1, hB⟩
    case rest =>
      clear c3
      clear x0 a0 a1 hB
      obtain ⟨rfl, x0, a0, a1, hB⟩ := hcut
      rename World => WN
      clear hG1 hG0 pB
      have c1 := a0.cell 39 (.slice c.ka c.kn c.kc) rfl
      rw [hn] at c1
      have c2 := a0.cell 3 (.int .u32 (c.beat.now : Int)) rfl
      go_wp2_with fail
      refine (pC _ (lS.below hB)).mono ?_
      rintro r w6 ⟨rfl, hb⟩
      replace x0 := x0.below hb
      replace a0 := a0.below hb
      replace a1 := a1.below hb
      replace hB := hB.trans (hb.mono hB.size)
      clear hb pC c1 c2
      have hb := below_box w6 (.cells Kx.arr 64)
      have y0 := blk_new w6 Kx.arr 64
      have h_Y := x0.lt
      go_upto_region 11 with (go_big_may; first | refine alloc_zero zeroKt rfl rfl ?_ | refine store_new rfl 64 _ _ rfl (cells := Kx.arr) rfl rfl sizeKt rfl Kx.arr_one ?_)
      try simp only [Act.put, List.setIfInBounds_toArray, List.set_cons_zero, List.set_cons_succ]
      generalize w6.alloc (Obj.cells Kx.arr 64) = W6 at y0 hb ⊢
      replace x0 := x0.below hb
      replace a0 := a0.below hb
      replace a1 := a1.below hb
      replace hB := hB.trans (hb.mono hB.size)
      clear hb 
      generalize w6.heap.size = Y at y0 h_Y ⊢
      go_upto_if 81 with fail
      go_cut [3] from 82 to 91 (fun v wx => v = .pointer (some ⟨p, 0, none⟩) ∧ Blk p (pwc (Pw.mk s c.own c.conf c.mem C1 c.pr c.want c.rdy c.epoch o G0 G1 R0 R1 R2)) 50 wx ∧ Blk q (coc c) 35 wx ∧ Blk (q + 1) (pwc Pw.zero) 50 wx ∧ Below w.heap.size w wx)
      case first =>
        cases E with
        | true =>
          obtain rfl : R0 = 0 := hR0.out.symm
          obtain rfl : R1 = 0 := hR1.out.symm
          obtain rfl : R2 = noFr := hR2.out.symm
          go_wp2_with fail
          go_meet
          exact ⟨rfl, x0, a0, a1, hB⟩
        | false =>
          obtain rfl : R0 = ko := hR0.out.symm
          obtain rfl : R1 = Kx.rd := hR1.out.symm
          obtain rfl : R2 = Kx.f := hR2.out.symm
          have c1 := y0.cell 0 _ Kx.get0
          go_upto_region 13 with (go_big_may; (refine store_one rfl 22 _ _ rfl (off := 107) (.int .u32 (R0 : Int)) x0 rfl rfl rfl rfl sizeU32 (by rw [pwc_size]; decide) ?_; intro w7 x7 k7; rw [Pw.s_ro] at x7))
          try simp only [Act.put]
          replace a0 := a0.kp1 k7 (by omega)
          replace a1 := a1.kp1 k7 (by omega)
          replace y0 := y0.kp1 k7 (by omega)
          replace hB := hB.trans (k7.below1 (by omega) hB.size)
          clear k7
          clear c1
          have c1 := y0.cell 1 _ Kx.get1
          go_upto_region 14 with (go_big_may; (refine store_one rfl 22 _ _ rfl (off := 108) (.int .u32 (Kx.rd : Int)) x7 rfl rfl rfl rfl sizeU32 (by rw [pwc_size]; decide) ?_; intro w8 x8 k8; rw [Pw.s_rr] at x8))
          try simp only [Act.put]
          replace a0 := a0.kp1 k8 (by omega)
          replace a1 := a1.kp1 k8 (by omega)
          replace y0 := y0.kp1 k8 (by omega)
          replace hB := hB.trans (k8.below1 (by omega) hB.size)
          clear k8
          clear c1 x7
          go_wp2_with (first | refine load_part rfl 41 _ rfl (o := 2) y0 rfl (frv Kx.f) Kx.frame Try.underlying41 rfl sizeFr ?_ | (refine store_part rfl 41 _ _ rfl (off := 109) (cells := (frc Kx.f)) x8 rfl rfl sizeFr (show 109 + 36 ≤ 145 by decide) (frc_one _) ?_; intro w9 x9 k9; rw [Pw.s_f2] at x9))
          go_meet
          replace a0 := a0.kp1 k9 (by omega)
          replace a1 := a1.kp1 k9 (by omega)
          replace hB := hB.trans (k9.below1 (by omega) hB.size)
          clear k9
          exact ⟨rfl, x9, a0, a1, hB⟩
      case rest =>
        clear x0 a0 a1 hB
        obtain ⟨rfl, x0, a0, a1, hB⟩ := hcut
        rename World => WN
        clear hR0 hR1 hR2 y0
        go_wp2_with (first | refine load_blk rfl 50 _ rfl x0 rfl Try.underlying50 rfl sizePk ?_ | (refine store_part rfl 50 _ _ rfl (off := 0) (cells := pwc (Pw.mk s c.own c.conf c.mem C1 c.pr c.want c.rdy c.epoch o G0 G1 R0 R1 R2)) a1 rfl rfl sizePk (Nat.le_refl _) (pwc_one _) ?_; intro w9 b9 k9; rw [pwc_all] at b9; have hB9 : Below w.heap.size w w9 := hB.trans (k9.below1 (by omega) hB.size)))
        exact bodyPost_ret (w := w9) (v := .agg (pwc (Pw.mk s c.own c.conf c.mem C1 c.pr c.want c.rdy c.epoch o G0 G1 R0 R1 R2))) (ret_one rfl rfl b9 Try.underlying50 rfl sizePk) rfl ⟨rfl, hB9⟩

end Go.Proofs.Ythgmecgknhphmaa
