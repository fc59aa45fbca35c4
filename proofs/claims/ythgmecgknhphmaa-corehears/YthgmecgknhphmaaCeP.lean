/-
  What a core sends: what the call answers (core.Packet).
  Of a Self from 0 to 7; its numbers are such as a uint32 holds; what it keeps takes no more bytes than a list may.
-/
import Derived.Test.YthgmecgknhphmaaCeA
import Derived.Test.YthgmecgknhphmaaCeK
import Derived.Test.YthgmecgknhphmaaBase
namespace Go.Proofs.Ythgmecgknhphmaa
set_option maxRecDepth 10000
set_option linter.unusedSimpArgs false
open Go.RowKit Go.Sort
set_option linter.unusedVariables false

set_option maxHeartbeats 8000000 in
theorem packet_ok (c : Co) (L : List Kt) (s : Nat) (hs : s < 8) (hcs : c.self = (s : Int)) (kb : c.beat.now < 4294967296) (kc : ∀ i, c.count i < 4294967296) (hn : c.kn = L.length) (hl : L.length * 352 ≤ 140737488355328) (w : World) (lS : Li Kt.vals 0 c.ka L w) :
    Calls Try.prog 15 #[.agg (coc c)] w fun e w' => e = .returned (.agg (pwc (packW c L))) ∧ Below w.heap.size w w' := by
  obtain ⟨a0, a1, hB⟩ := two_blk (T0 := 35) (T1 := 50) (C0 := coc c) (C1 := pwc Pw.zero) (w := w) rfl
  have po := own_ok c s hs hcs
  have pg := gathers_ok c
  have lm : L.length ≤ 9223372036854775807 := by omega
  have eo : ownN c = c.count s := by rw [ownN, hcs, Int.toNat_natCast]
  obtain ⟨o, ho⟩ : ∃ o, ownN c = o := ⟨_, rfl⟩
  have holt : o < 4294967296 := by rw [← ho, eo]; exact kc s
  obtain ⟨g, hg⟩ : ∃ t, gathB c = t := ⟨_, rfl⟩
  obtain ⟨C1, hC1⟩ : ∃ C, Hid ((if g = true then c.cut else c.count) = C) := ⟨_, rfl⟩
  obtain ⟨G0, hG0⟩ : ∃ G, Hid (gotF (getK (s : Int) o L) = G) := ⟨_, rfl⟩
  obtain ⟨G1, hG1⟩ : ∃ G, Hid ((if 0 < o then gotF (getK (s : Int) (o - 1) L) else noFr) = G) := ⟨_, rfl⟩
  obtain ⟨Kx, hK⟩ : ∃ Kx, Hid (pickK L c.beat.now = Kx) := ⟨_, rfl⟩
  obtain ⟨E, hE⟩ : ∃ E, L.isEmpty = E := ⟨_, rfl⟩
  obtain ⟨ko, hko⟩ : ∃ k, Hid ((Kx.fr % 4294967296).toNat = k) := ⟨_, rfl⟩
  have hw9 : IntKind.u32.wrap Kx.fr = (ko : Int) := by rw [IntKind.wrap_u32, ← hko.out]; omega
  obtain ⟨R0, hR0⟩ : ∃ k, Hid ((if E = true then 0 else ko) = k) := ⟨_, rfl⟩
  obtain ⟨R1, hR1⟩ : ∃ k, Hid ((if E = true then 0 else Kx.rd) = k) := ⟨_, rfl⟩
  obtain ⟨R2, hR2⟩ : ∃ k, Hid ((if E = true then noFr else Kx.f) = k) := ⟨_, rfl⟩
  have ef : packW c L = (Pw.mk s c.own c.conf c.mem C1 c.pr c.want c.rdy c.epoch o G0 G1 R0 R1 R2) := by
    unfold packW relO relR relF
    rw [hE, ho, hcs, hK.out, hg, hC1.out, hG0.out, hG1.out, hko.out, hR0.out, hR1.out, hR2.out]
    rfl
  rw [ef]
  have pA := fun (u : World) (h : Li Kt.vals 0 c.ka L u) => get_ok L c.ka c.kc (s : Int) o lm u h
  have pB := fun (u : World) (h : Li Kt.vals 0 c.ka L u) => get_ok L c.ka c.kc (s : Int) (o - 1) lm u h
  have pC := fun (u : World) (h : Li Kt.vals 0 c.ka L u) => pick_ok L c.ka c.kc c.beat.now kb lm u h
  rw [hG0.out] at pA
  rw [hK.out, hE] at pC
  rw [ho] at po
  rw [hg] at pg
  have hws : IntKind.u32.wrap (s : Int) = (s : Int) := by rw [IntKind.wrap_u32]; omega
  clear ef eo ho hg hE hK hko
  go_enter Try.func15, Try.ntmps15
  go_upto_region 1 with (refine alloc_zero zeroPw rfl rfl ?_)
  try simp only [Act.put, List.setIfInBounds_toArray, List.set_cons_zero, List.set_cons_succ]
  try simp only [alloc_size]
  generalize (w.alloc (Obj.cells (coc c) 35)).alloc (Obj.cells (pwc Pw.zero) 50) = W at a0 a1 hB ⊢
  have hW := a1.lt
  have hC0 : Below W.heap.size W W.drew := (Below.refl _ _).drew
  have hdr : W.drew.heap.size = W.heap.size := rfl
  go_cut [3] from 6 to 27 (fun pv wx => ∃ p, pv = .pointer (some ⟨p, 0, none⟩) ∧ w.heap.size + 1 < p ∧ Blk p (pwc (Pw.mk s c.own c.conf c.mem c.count c.pr c.want c.rdy c.epoch o noFr noFr 0 0 noFr)) 50 wx ∧ Blk w.heap.size (coc c) 35 wx ∧ Blk (w.heap.size + 1) (pwc Pw.zero) 50 wx ∧ Below W.heap.size W wx)
  case first =>
    refine wp_region_held_drew (S := fun w' => Blk w.heap.size (coc c) 35 w' ∧ Blk (w.heap.size + 1) (pwc Pw.zero) 50 w') (by kernel_rfl) ⟨a0.drew, a1.drew⟩ (fun hHeld => ?_)
    refine tkH 0 (v := ?v1) rfl (by kernel_rfl) (fun _ _ _ h => h) (Or.inl ⟨by rfl, ?hy1⟩) hHeld ?rest1
    case hy1 => (intro w hSw; clear hSw; go_simp; try with_reducible rfl)
    try simp only [List.getElem_toArray, List.getElem_cons_succ, List.getElem_cons_zero, Act.put, List.setIfInBounds_toArray, List.set_cons_succ, List.set_cons_zero]
    refine tkH 1 (v := ?v2) rfl (by kernel_rfl) (fun _ _ _ h => h) (Or.inl ⟨by rfl, ?hy2⟩) hHeld ?rest2
    case hy2 => (intro w hSw; have hc := hSw.1.cell 0 (.int .i64 c.self) rfl; rw [hcs] at hc; clear hSw; go_simp; try with_reducible rfl)
    try simp only [List.getElem_toArray, List.getElem_cons_succ, List.getElem_cons_zero, Act.put, List.setIfInBounds_toArray, List.set_cons_succ, List.set_cons_zero]
    refine tkH 2 (v := ?v3) rfl (by kernel_rfl) (fun _ _ _ h => h) (Or.inl ⟨by rfl, ?hy3⟩) hHeld ?rest3
    case hy3 => (intro w hSw; clear hSw; go_simp; try with_reducible rfl)
    try simp only [List.getElem_toArray, List.getElem_cons_succ, List.getElem_cons_zero, Act.put, List.setIfInBounds_toArray, List.set_cons_succ, List.set_cons_zero]
    refine tkH 3 (v := ?v4) rfl (by kernel_rfl) (fun _ _ _ h => h) (Or.inl ⟨by rfl, ?hy4⟩) hHeld ?rest4
    case hy4 => (intro w hSw; clear hSw; go_simp; try with_reducible rfl)
    try simp only [List.getElem_toArray, List.getElem_cons_succ, List.getElem_cons_zero, Act.put, List.setIfInBounds_toArray, List.set_cons_succ, List.set_cons_zero]
    refine tkH 4 (v := ?v5) rfl (by kernel_rfl) (fun _ _ _ h => h) (Or.inl ⟨by rfl, ?hy5⟩) hHeld ?rest5
    case hy5 => (intro w hSw; have hc := hSw.1.cell 2 (.int .u32 (c.own : Int)) rfl; clear hSw; go_simp; try with_reducible rfl)
    try simp only [List.getElem_toArray, List.getElem_cons_succ, List.getElem_cons_zero, Act.put, List.setIfInBounds_toArray, List.set_cons_succ, List.set_cons_zero]
    refine tkH 5 (v := ?v6) rfl (by kernel_rfl) (fun _ _ _ h => h) (Or.inl ⟨by rfl, ?hy6⟩) hHeld ?rest6
    case hy6 => (intro w hSw; clear hSw; go_simp; try with_reducible rfl)
    try simp only [List.getElem_toArray, List.getElem_cons_succ, List.getElem_cons_zero, Act.put, List.setIfInBounds_toArray, List.set_cons_succ, List.set_cons_zero]
    refine' tkH 6 (v := _) rfl (by kernel_rfl) (fun _ _ _ h => h) (yieldsIf_load_mid (by rfl) _ _ rfl w.heap.size 20 rfl c.conf.vals _ ?hS7 Try.underlying27 rfl sizeIdn) hHeld ?rest7
    case hS7 => exact fun w h => h.1.range 20 _ c.p_conf
    try simp only [List.getElem_toArray, List.getElem_cons_succ, List.getElem_cons_zero, Act.put, List.setIfInBounds_toArray, List.set_cons_succ, List.set_cons_zero]
    refine tkH 7 (v := ?v8) rfl (by kernel_rfl) (fun _ _ _ h => h) (Or.inl ⟨by rfl, ?hy8⟩) hHeld ?rest8
    case hy8 => (intro w hSw; clear hSw; go_simp; try with_reducible rfl)
    try simp only [List.getElem_toArray, List.getElem_cons_succ, List.getElem_cons_zero, Act.put, List.setIfInBounds_toArray, List.set_cons_succ, List.set_cons_zero]
    refine' tkH 8 (v := _) rfl (by kernel_rfl) (fun _ _ _ h => h) (yieldsIf_load_mid (by rfl) _ _ rfl w.heap.size 23 rfl (row8 c.mem) _ ?hS9 Try.underlying28 rfl sizeMb) hHeld ?rest9
    case hS9 => exact fun w h => h.1.range 23 _ c.p_mem
    try simp only [List.getElem_toArray, List.getElem_cons_succ, List.getElem_cons_zero, Act.put, List.setIfInBounds_toArray, List.set_cons_succ, List.set_cons_zero]
    refine tkH 9 (v := ?v10) rfl (by kernel_rfl) (fun _ _ _ h => h) (Or.inl ⟨by rfl, ?hy10⟩) hHeld ?rest10
    case hy10 => (intro w hSw; clear hSw; go_simp; try with_reducible rfl)
    try simp only [List.getElem_toArray, List.getElem_cons_succ, List.getElem_cons_zero, Act.put, List.setIfInBounds_toArray, List.set_cons_succ, List.set_cons_zero]
    refine' tkH 10 (v := _) rfl (by kernel_rfl) (fun _ _ _ h => h) (yieldsIf_load_mid (by rfl) _ _ rfl w.heap.size 31 rfl (row8 c.count) _ ?hS11 Try.underlying29 rfl sizeCt) hHeld ?rest11
    case hS11 => exact fun w h => h.1.range 31 _ c.p_count
    try simp only [List.getElem_toArray, List.getElem_cons_succ, List.getElem_cons_zero, Act.put, List.setIfInBounds_toArray, List.set_cons_succ, List.set_cons_zero]
    refine tkH 11 (v := ?v12) rfl (by kernel_rfl) (fun _ _ _ h => h) (Or.inl ⟨by rfl, ?hy12⟩) hHeld ?rest12
    case hy12 => (intro w hSw; clear hSw; go_simp; try with_reducible rfl)
    try simp only [List.getElem_toArray, List.getElem_cons_succ, List.getElem_cons_zero, Act.put, List.setIfInBounds_toArray, List.set_cons_succ, List.set_cons_zero]
    refine' tkH 12 (v := _) rfl (by kernel_rfl) (fun _ _ _ h => h) (yieldsIf_load_mid (by rfl) _ _ rfl w.heap.size 40 rfl c.pr.vals _ ?hS13 Try.underlying27 rfl sizeIdn) hHeld ?rest13
    case hS13 => exact fun w h => h.1.range 40 _ c.p_pr
    try simp only [List.getElem_toArray, List.getElem_cons_succ, List.getElem_cons_zero, Act.put, List.setIfInBounds_toArray, List.set_cons_succ, List.set_cons_zero]
    refine tkH 13 (v := ?v14) rfl (by kernel_rfl) (fun _ _ _ h => h) (Or.inl ⟨by rfl, ?hy14⟩) hHeld ?rest14
    case hy14 => (intro w hSw; clear hSw; go_simp; try with_reducible rfl)
    try simp only [List.getElem_toArray, List.getElem_cons_succ, List.getElem_cons_zero, Act.put, List.setIfInBounds_toArray, List.set_cons_succ, List.set_cons_zero]
    refine' tkH 14 (v := _) rfl (by kernel_rfl) (fun _ _ _ h => h) (yieldsIf_load_mid (by rfl) _ _ rfl w.heap.size 43 rfl (row8 c.want) _ ?hS15 Try.underlying28 rfl sizeMb) hHeld ?rest15
    case hS15 => exact fun w h => h.1.range 43 _ c.p_want
    try simp only [List.getElem_toArray, List.getElem_cons_succ, List.getElem_cons_zero, Act.put, List.setIfInBounds_toArray, List.set_cons_succ, List.set_cons_zero]
    refine tkH 15 (v := ?v16) rfl (by kernel_rfl) (fun _ _ _ h => h) (Or.inl ⟨by rfl, ?hy16⟩) hHeld ?rest16
    case hy16 => (intro w hSw; clear hSw; go_simp; try with_reducible rfl)
    try simp only [List.getElem_toArray, List.getElem_cons_succ, List.getElem_cons_zero, Act.put, List.setIfInBounds_toArray, List.set_cons_succ, List.set_cons_zero]
    refine tkH 16 (v := ?v17) rfl (by kernel_rfl) (fun _ _ _ h => h) (Or.inl ⟨by rfl, ?hy17⟩) hHeld ?rest17
    case hy17 => (intro w hSw; have hc := hSw.1.cell 59 (.bool c.rdy) rfl; clear hSw; go_simp; try with_reducible rfl)
    try simp only [List.getElem_toArray, List.getElem_cons_succ, List.getElem_cons_zero, Act.put, List.setIfInBounds_toArray, List.set_cons_succ, List.set_cons_zero]
    refine tkH 17 (v := ?v18) rfl (by kernel_rfl) (fun _ _ _ h => h) (Or.inl ⟨by rfl, ?hy18⟩) hHeld ?rest18
    case hy18 => (intro w hSw; clear hSw; go_simp; try with_reducible rfl)
    try simp only [List.getElem_toArray, List.getElem_cons_succ, List.getElem_cons_zero, Act.put, List.setIfInBounds_toArray, List.set_cons_succ, List.set_cons_zero]
    refine tkH 18 (v := ?v19) rfl (by kernel_rfl) (fun _ _ _ h => h) (Or.inl ⟨by rfl, ?hy19⟩) hHeld ?rest19
    case hy19 => (intro w hSw; have hc := hSw.1.cell 188 (.int .u32 (c.epoch : Int)) rfl; clear hSw; go_simp; try with_reducible rfl)
    try simp only [List.getElem_toArray, List.getElem_cons_succ, List.getElem_cons_zero, Act.put, List.setIfInBounds_toArray, List.set_cons_succ, List.set_cons_zero]
    refine' tkH 19 (v := _) rfl (by kernel_rfl) (fun _ _ _ h => h) (yieldsIf_load_mid (by rfl) _ _ rfl w.heap.size 0 rfl (col c) _ ?hS20 Try.underlying35 rfl sizeCo) hHeld ?rest20
    case hS20 => exact fun w h => h.1.whole
    try simp only [List.getElem_toArray, List.getElem_cons_succ, List.getElem_cons_zero, Act.put, List.setIfInBounds_toArray, List.set_cons_succ, List.set_cons_zero]
    refine wpAnyH_ready (rs := [20, 22]) (by kernel_rfl) (by simp) ?_
    refine AllReadyH.cons rfl (fun K hK => ?_) (AllReadyH.cons rfl (fun K hK => ?_) (AllReadyH.nil))
    · go_simp
      go_wp2_with (refine (po _).mono ?_; rintro r u1 ⟨rfl, hb⟩)
      have hC1 := hC0.trans (hb.mono hC0.size)
      refine hK.out _ _ ⟨hHeld.1.below hb, hHeld.2.below hb⟩ (fun hHeld => ?_)
      clear hK K hb hC0
      refine wpAnyH_take (i := 21) (v := .agg (pwc (Pw.mk s c.own c.conf c.mem c.count c.pr c.want c.rdy c.epoch o noFr noFr 0 0 noFr))) rfl (by kernel_rfl) (by kernel_rfl) (by kernel_rfl) (fun _ _ _ h => h) (yields_build (by rfl) 50 #[(0, .tmp 8), (1, .tmp 10), (2, .tmp 12), (3, .tmp 14), (4, .tmp 16), (5, .tmp 18), (6, .tmp 20), (7, .tmp 22), (8, .tmp 24), (9, .tmp 26)] rfl (by kernel_rfl)) hHeld ?rest21
      try simp only [List.getElem_toArray, List.getElem_cons_succ, List.getElem_cons_zero, Act.put, List.setIfInBounds_toArray, List.set_cons_succ, List.set_cons_zero]
      refine wpAnyH_ready (rs := [22]) (by kernel_rfl) (by simp) ?_
      refine AllReadyH.cons rfl (fun K hK => ?_) (AllReadyH.nil)
      rw [if_pos (by rfl)]
      refine wp_alloc_any zeroPw rfl ?_
      intro xp u2 x2 hb xl xt
      have xg := Nat.le_trans hC1.size xl
      have hC2 := hC1.trans (hb.mono hC1.size)
      refine hK.out _ _ ⟨hHeld.1.below hb, hHeld.2.below hb⟩ (fun hHeld => ?_)
      clear hK K hb hC1
      try simp only [List.getElem_toArray, List.getElem_cons_succ, List.getElem_cons_zero, Act.put, List.setIfInBounds_toArray, List.set_cons_succ, List.set_cons_zero]
      refine wpAnyH_ready (rs := [23]) (by kernel_rfl) (by simp) ?_
      refine AllReadyH.cons rfl (fun K hK => ?_) (AllReadyH.nil)
      rw [if_pos (by rfl)]
      refine wp_store_all 50 _ _ rfl (cells := (pwc (Pw.mk s c.own c.conf c.mem c.count c.pr c.want c.rdy c.epoch o noFr noFr 0 0 noFr))) x2 rfl rfl sizePk rfl (pwc_one _) ?_
      intro u3 hn hk
      have hC3 := hC2.trans (hk.below (by simp <;> omega) hC2.size)
      have x3 := hn
      refine hK.out _ _ ⟨hHeld.1.kp hk (by simp <;> omega), hHeld.2.kp hk (by simp <;> omega)⟩ (fun hHeld => ?_)
      clear hK K hk hn hC2 x2
      try simp only [List.getElem_toArray, List.getElem_cons_succ, List.getElem_cons_zero, Act.put, List.setIfInBounds_toArray, List.set_cons_succ, List.set_cons_zero]
      refine wpAnyH_done (by kernel_rfl) ?_ _
      go_wp2_with fail
      go_meet
      exact ⟨xp, rfl, by omega, x3, hHeld.1, hHeld.2, hC3⟩
    · rw [if_pos (by rfl)]
      refine wp_alloc_any zeroPw rfl ?_
      intro xp u4 x1 hb xl xt
      have xg := Nat.le_trans hC0.size xl
      have hC1 := hC0.trans (hb.mono hC0.size)
      refine hK.out _ _ ⟨hHeld.1.below hb, hHeld.2.below hb⟩ (fun hHeld => ?_)
      clear hK K hb hC0
      try simp only [List.getElem_toArray, List.getElem_cons_succ, List.getElem_cons_zero, Act.put, List.setIfInBounds_toArray, List.set_cons_succ, List.set_cons_zero]
      refine wpAnyH_ready (rs := [20]) (by kernel_rfl) (by simp) ?_
      refine AllReadyH.cons rfl (fun K hK => ?_) (AllReadyH.nil)
      go_simp
      go_wp2_with (refine (po _).mono ?_; rintro r u5 ⟨rfl, hb⟩)
      have hC2 := hC1.trans (hb.mono hC1.size)
      have x2 := x1.below hb
      refine hK.out _ _ ⟨hHeld.1.below hb, hHeld.2.below hb⟩ (fun hHeld => ?_)
      clear hK K hb hC1 x1
      refine wpAnyH_take (i := 21) (v := .agg (pwc (Pw.mk s c.own c.conf c.mem c.count c.pr c.want c.rdy c.epoch o noFr noFr 0 0 noFr))) rfl (by kernel_rfl) (by kernel_rfl) (by kernel_rfl) (fun _ _ _ h => h) (yields_build (by rfl) 50 #[(0, .tmp 8), (1, .tmp 10), (2, .tmp 12), (3, .tmp 14), (4, .tmp 16), (5, .tmp 18), (6, .tmp 20), (7, .tmp 22), (8, .tmp 24), (9, .tmp 26)] rfl (by kernel_rfl)) hHeld ?rest22
      try simp only [List.getElem_toArray, List.getElem_cons_succ, List.getElem_cons_zero, Act.put, List.setIfInBounds_toArray, List.set_cons_succ, List.set_cons_zero]
      refine wpAnyH_ready (rs := [23]) (by kernel_rfl) (by simp) ?_
      refine AllReadyH.cons rfl (fun K hK => ?_) (AllReadyH.nil)
      rw [if_pos (by rfl)]
      refine wp_store_all 50 _ _ rfl (cells := (pwc (Pw.mk s c.own c.conf c.mem c.count c.pr c.want c.rdy c.epoch o noFr noFr 0 0 noFr))) x2 rfl rfl sizePk rfl (pwc_one _) ?_
      intro u6 hn hk
      have hC3 := hC2.trans (hk.below (by simp <;> omega) hC2.size)
      have x3 := hn
      refine hK.out _ _ ⟨hHeld.1.kp hk (by simp <;> omega), hHeld.2.kp hk (by simp <;> omega)⟩ (fun hHeld => ?_)
      clear hK K hk hn hC2 x2
      try simp only [List.getElem_toArray, List.getElem_cons_succ, List.getElem_cons_zero, Act.put, List.setIfInBounds_toArray, List.set_cons_succ, List.set_cons_zero]
      refine wpAnyH_done (by kernel_rfl) ?_ _
      go_wp2_with fail
      go_meet
      exact ⟨xp, rfl, by omega, x3, hHeld.1, hHeld.2, hC3⟩
  case rest =>
    obtain ⟨p, rfl, hp, x0, a0', a1', hb⟩ := hcut
    clear a0 a1 hC0 po
    rename World => w1
    have a0 := a0'
    have a1 := a1'
    replace hB := hB.trans (hb.mono hB.size)
    clear a0' a1' hb
    go_wp2_with (refine load_blk rfl 35 _ rfl a0 rfl Try.underlying35 rfl sizeCo ?_)
    refine (pg _).mono ?_
    rintro r w2 ⟨rfl, hb⟩
    replace x0 := x0.below hb
    replace a0 := a0.below hb
    replace a1 := a1.below hb
    replace hB := hB.trans (hb.mono hB.size)
    clear hb pg
    go_upto_if 29 with fail
    go_cut [3] from 30 to 32 (fun v wx => v = .pointer (some ⟨p, 0, none⟩) ∧ Blk p (pwc (Pw.mk s c.own c.conf c.mem C1 c.pr c.want c.rdy c.epoch o noFr noFr 0 0 noFr)) 50 wx ∧ Blk w.heap.size (coc c) 35 wx ∧ Blk (w.heap.size + 1) (pwc Pw.zero) 50 wx ∧ Below w.heap.size w wx)
    case first =>
      cases g with
      | true =>
        obtain rfl : C1 = c.cut := hC1.out.symm
        clear hC1
        go_wp2_with (first | refine load_part rfl 29 _ rfl (o := 51) a0 rfl (row8 c.cut) c.p_cut Try.underlying29 rfl sizeCt ?_ | (refine store_part rfl 29 _ _ rfl (off := 13) (cells := (mbc c.cut)) x0 rfl rfl sizeCt (show 13 + 8 ≤ 145 by decide) (mbc_one _) ?_; intro w3 x3 k3; rw [Pw.s_count] at x3))
        go_meet
        replace a0 := a0.kp1 k3 (by omega)
        replace a1 := a1.kp1 k3 (by omega)
        replace hB := hB.trans (k3.below1 (by omega) hB.size)
        clear k3
        exact ⟨rfl, x3, a0, a1, hB⟩
      | false =>
        obtain rfl : C1 = c.count := hC1.out.symm
        clear hC1
        go_wp2_with fail
        go_meet
        exact ⟨rfl, x0, a0, a1, hB⟩
    case rest =>
      obtain ⟨rfl, x0', a0', a1', hB'⟩ := hcut
      clear x0 a0 a1 hB
      rename World => WN
      have x0 := x0'
      have a0 := a0'
      have a1 := a1'
      have hB := hB'
      clear x0' a0' a1' hB'
      clear hC1
      have c1 := a0.cell 39 (.slice c.ka c.kn c.kc) rfl
      rw [hn] at c1
      have c2 := a0.cell 0 (.int .i64 c.self) rfl
      rw [hcs] at c2
      have c3 := x0.cell 34 (.int .u32 (o : Int)) rfl
      go_wp2_with fail
      refine (pA _ (lS.below hB)).mono ?_
      rintro r w4 ⟨rfl, hb⟩
      replace x0 := x0.below hb
      replace a0 := a0.below hb
      replace a1 := a1.below hb
      replace hB := hB.trans (hb.mono hB.size)
      clear hb pA c1 c2 c3
      go_upto_region 5 with ((refine store_part rfl 41 _ _ rfl (off := 35) (cells := (frc G0)) x0 rfl rfl sizeFr (show 35 + 36 ≤ 145 by decide) (frc_one _) ?_; intro w5 x5 k5; rw [Pw.s_f0] at x5))
      try simp only [Act.put]
      replace a0 := a0.kp1 k5 (by omega)
      replace a1 := a1.kp1 k5 (by omega)
      replace hB := hB.trans (k5.below1 (by omega) hB.size)
      clear k5
      have c3 := x5.cell 34 (.int .u32 (o : Int)) rfl
      clear x0
      have x0 := x5
      clear x5
      obtain ⟨T0, hT0⟩ : ∃ T, Hid (decide (0 < o) = T) := ⟨_, rfl⟩
      go_cut [46] from 44 to 45 (fun v wx => v = .bool T0 ∧ wx = w5)
      case first =>
        by_cases h0 : 0 < o
        · have g0 : (0 : Int) < (o : Int) := by omega
          obtain rfl : T0 = true := by rw [← hT0.out]; simp [h0]
          go_wp2_with fail
          go_meet
          exact ⟨rfl, rfl⟩
        · have g0 : ¬ (0 : Int) < (o : Int) := by omega
          obtain rfl : T0 = false := by rw [← hT0.out]; simp [h0]
          go_wp2_with fail
          go_meet
          exact ⟨rfl, rfl⟩
      case rest =>
      obtain ⟨rfl, rfl⟩ := hcut
      go_upto_if 46 with fail
      go_cut [3] from 47 to 58 (fun v wx => v = .pointer (some ⟨p, 0, none⟩) ∧ Blk p (pwc (Pw.mk s c.own c.conf c.mem C1 c.pr c.want c.rdy c.epoch o G0 G1 0 0 noFr)) 50 wx ∧ Blk w.heap.size (coc c) 35 wx ∧ Blk (w.heap.size + 1) (pwc Pw.zero) 50 wx ∧ Below w.heap.size w wx)
      case first =>
        by_cases h0 : 0 < o
        · obtain rfl : T0 = true := by rw [← hT0.out]; simp [h0]
          obtain rfl : G1 = gotF (getK (s : Int) (o - 1) L) := by rw [← hG1.out, if_pos h0]
          obtain ⟨o1, ho1⟩ : ∃ v, o - 1 = v := ⟨_, rfl⟩
          have hw2 : IntKind.u32.wrap ((o : Int) - 1) = (o1 : Int) := by rw [IntKind.wrap_u32]; omega
          rw [ho1] at pB
          have HG : Hid (gotF (getK (s : Int) (o - 1) L) = gotF (getK (s : Int) o1 L)) := by show _ = _; rw [ho1]
          clear hG1 ho1
          have c1 := a0.cell 39 (.slice c.ka c.kn c.kc) rfl
          rw [hn] at c1
          have c2 := a0.cell 0 (.int .i64 c.self) rfl
          rw [hcs] at c2
          go_wp2_with fail
          refine (pB _ (lS.below hB)).mono ?_
          rintro r w6 ⟨rfl, hb⟩
          replace x0 := x0.below hb
          replace a0 := a0.below hb
          replace a1 := a1.below hb
          replace hB := hB.trans (hb.mono hB.size)
          clear hb pB c1 c2 c3
          go_wp2_with ((refine store_part rfl 41 _ _ rfl (off := 71) (cells := (frc (gotF (getK (s : Int) o1 L)))) x0 rfl rfl sizeFr (show 71 + 36 ≤ 145 by decide) (frc_one _) ?_; intro w7 x7 k7; rw [Pw.s_f1] at x7))
          go_meet
          replace a0 := a0.kp1 k7 (by omega)
          replace a1 := a1.kp1 k7 (by omega)
          replace hB := hB.trans (k7.below1 (by omega) hB.size)
          clear k7
          exact ⟨rfl, by rw [HG.out]; exact x7, a0, a1, hB⟩
        · obtain rfl : T0 = false := by rw [← hT0.out]; simp [h0]
          obtain rfl : G1 = noFr := by rw [← hG1.out, if_neg h0]
          go_wp2_with fail
          go_meet
          exact ⟨rfl, x0, a0, a1, hB⟩
      case rest =>
        clear c3
        obtain ⟨rfl, x0', a0', a1', hB'⟩ := hcut
        clear x0 a0 a1 hB
        rename World => WN
        have x0 := x0'
        have a0 := a0'
        have a1 := a1'
        have hB := hB'
        clear x0' a0' a1' hB'
        clear hG1 hG0 pB
        have c1 := a0.cell 39 (.slice c.ka c.kn c.kc) rfl
        rw [hn] at c1
        have c2 := a0.cell 3 (.int .u32 (c.beat.now : Int)) rfl
        go_wp2_with fail
        refine (pC _ (lS.below hB)).mono ?_
        rintro r w6 ⟨rfl, hb⟩
        replace x0 := x0.below hb
        replace a0 := a0.below hb
        replace a1 := a1.below hb
        replace hB := hB.trans (hb.mono hB.size)
        clear hb pC c1 c2
        have hb := below_box w6 (.cells Kx.arr 64)
        have y0 := blk_new w6 Kx.arr 64
        have hpl := x0.lt
        go_upto_region 8 with (first | refine alloc_zero zeroKt rfl rfl ?_ | refine store_new rfl 64 _ _ rfl (cells := Kx.arr) rfl rfl sizeKt rfl Kx.arr_one ?_)
        try simp only [Act.put, List.setIfInBounds_toArray, List.set_cons_zero, List.set_cons_succ]
        generalize w6.alloc (Obj.cells Kx.arr 64) = W6 at y0 hb ⊢
        replace x0 := x0.below hb
        replace a0 := a0.below hb
        replace a1 := a1.below hb
        replace hB := hB.trans (hb.mono hB.size)
        clear hb 
        generalize w6.heap.size = Y at y0 hpl ⊢
        go_upto_if 68 with fail
        go_cut [3] from 69 to 78 (fun v wx => v = .pointer (some ⟨p, 0, none⟩) ∧ Blk p (pwc (Pw.mk s c.own c.conf c.mem C1 c.pr c.want c.rdy c.epoch o G0 G1 R0 R1 R2)) 50 wx ∧ Blk w.heap.size (coc c) 35 wx ∧ Blk (w.heap.size + 1) (pwc Pw.zero) 50 wx ∧ Below w.heap.size w wx)
        case first =>
          cases E with
          | true =>
            obtain rfl : R0 = 0 := hR0.out.symm
            obtain rfl : R1 = 0 := hR1.out.symm
            obtain rfl : R2 = noFr := hR2.out.symm
            go_wp2_with fail
            go_meet
            exact ⟨rfl, x0, a0, a1, hB⟩
          | false =>
            obtain rfl : R0 = ko := hR0.out.symm
            obtain rfl : R1 = Kx.rd := hR1.out.symm
            obtain rfl : R2 = Kx.f := hR2.out.symm
            go_upto_region 9 with fail
            replace x0 := x0.drew
            replace a0 := a0.drew
            replace a1 := a1.drew
            replace hB := hB.drew
            refine wp_region_held_drew (S := fun w' => Blk Y Kx.arr 64 w') (by kernel_rfl) y0.drew (fun hHeld => ?_)
            refine tkH 0 (v := ?v23) rfl (by kernel_rfl) (fun _ _ _ h => h) (Or.inl ⟨by rfl, ?hy23⟩) hHeld ?rest23
            case hy23 => (intro w hSw; clear hSw; go_simp; try with_reducible rfl)
            try simp only [List.getElem_toArray, List.getElem_cons_succ, List.getElem_cons_zero, Act.put, List.setIfInBounds_toArray, List.set_cons_succ, List.set_cons_zero]
            refine tkH 1 (v := ?v24) rfl (by kernel_rfl) (fun _ _ _ h => h) (Or.inl ⟨by rfl, ?hy24⟩) hHeld ?rest24
            case hy24 => (intro w hSw; have hc := hSw.cell 0 _ Kx.get0; clear hSw; go_simp; try with_reducible rfl)
            try simp only [List.getElem_toArray, List.getElem_cons_succ, List.getElem_cons_zero, Act.put, List.setIfInBounds_toArray, List.set_cons_succ, List.set_cons_zero]
            refine tkH 2 (v := ?v25) rfl (by kernel_rfl) (fun _ _ _ h => h) (Or.inl ⟨by rfl, ?hy25⟩) hHeld ?rest25
            case hy25 => (intro w hSw; clear hSw; go_simp; try with_reducible rfl)
            try simp only [List.getElem_toArray, List.getElem_cons_succ, List.getElem_cons_zero, Act.put, List.setIfInBounds_toArray, List.set_cons_succ, List.set_cons_zero]
            refine tkH 3 (v := ?v26) rfl (by kernel_rfl) (fun _ _ _ h => h) (Or.inl ⟨by rfl, ?hy26⟩) hHeld ?rest26
            case hy26 => (intro w hSw; clear hSw; go_simp; try with_reducible rfl)
            try simp only [List.getElem_toArray, List.getElem_cons_succ, List.getElem_cons_zero, Act.put, List.setIfInBounds_toArray, List.set_cons_succ, List.set_cons_zero]
            refine tkH 4 (v := ?v27) rfl (by kernel_rfl) (fun _ _ _ h => h) (Or.inl ⟨by rfl, ?hy27⟩) hHeld ?rest27
            case hy27 => (intro w hSw; have hc := hSw.cell 1 _ Kx.get1; clear hSw; go_simp; try with_reducible rfl)
            try simp only [List.getElem_toArray, List.getElem_cons_succ, List.getElem_cons_zero, Act.put, List.setIfInBounds_toArray, List.set_cons_succ, List.set_cons_zero]
            refine tkH 5 (v := ?v28) rfl (by kernel_rfl) (fun _ _ _ h => h) (Or.inl ⟨by rfl, ?hy28⟩) hHeld ?rest28
            case hy28 => (intro w hSw; clear hSw; go_simp; try with_reducible rfl)
            try simp only [List.getElem_toArray, List.getElem_cons_succ, List.getElem_cons_zero, Act.put, List.setIfInBounds_toArray, List.set_cons_succ, List.set_cons_zero]
            refine' tkH 6 (v := _) rfl (by kernel_rfl) (fun _ _ _ h => h) (yieldsIf_load_mid (by rfl) _ _ rfl Y 2 rfl (frv Kx.f) _ ?hS29 Try.underlying41 rfl sizeFr) hHeld ?rest29
            case hS29 => exact fun w h => h.range 2 _ Kx.frame
            try simp only [List.getElem_toArray, List.getElem_cons_succ, List.getElem_cons_zero, Act.put, List.setIfInBounds_toArray, List.set_cons_succ, List.set_cons_zero]
            refine tkH 7 (v := ?v30) rfl (by kernel_rfl) (fun _ _ _ h => h) (Or.inl ⟨by rfl, ?hy30⟩) hHeld ?rest30
            case hy30 => (intro w hSw; clear hSw; go_simp; try with_reducible rfl)
            try simp only [List.getElem_toArray, List.getElem_cons_succ, List.getElem_cons_zero, Act.put, List.setIfInBounds_toArray, List.set_cons_succ, List.set_cons_zero]
            refine wpAnyH_ready (rs := [8]) (by kernel_rfl) (by simp) ?_
            refine AllReadyH.cons rfl (fun K hK => ?_) (AllReadyH.nil)
            rw [if_pos (by rfl)]
            refine wp_store_one 22 _ _ rfl (off := 107) (.int .u32 (R0 : Int)) x0 rfl rfl rfl rfl sizeU32 (by rw [pwc_size]; decide) ?_
            intro u1 hn9 hk9
            rw [Pw.s_ro] at hn9
            replace x0 := hn9
            replace a0 := a0.kp1 hk9 (by omega)
            replace a1 := a1.kp1 hk9 (by omega)
            replace hB := hB.trans (hk9.below1 (by omega) hB.size)
            refine hK.out _ _ (hHeld.kp1 hk9 (by omega)) (fun hHeld => ?_)
            clear hK K hk9 hn9
            try simp only [List.getElem_toArray, List.getElem_cons_succ, List.getElem_cons_zero, Act.put, List.setIfInBounds_toArray, List.set_cons_succ, List.set_cons_zero]
            refine tkH 9 (v := ?v31) rfl (by kernel_rfl) (fun _ _ _ h => h) (Or.inl ⟨by rfl, ?hy31⟩) hHeld ?rest31
            case hy31 => (intro w hSw; clear hSw; go_simp; try with_reducible rfl)
            try simp only [List.getElem_toArray, List.getElem_cons_succ, List.getElem_cons_zero, Act.put, List.setIfInBounds_toArray, List.set_cons_succ, List.set_cons_zero]
            refine wpAnyH_ready (rs := [10]) (by kernel_rfl) (by simp) ?_
            refine AllReadyH.cons rfl (fun K hK => ?_) (AllReadyH.nil)
            rw [if_pos (by rfl)]
            refine wp_store_one 22 _ _ rfl (off := 108) (.int .u32 (Kx.rd : Int)) x0 rfl rfl rfl rfl sizeU32 (by rw [pwc_size]; decide) ?_
            intro u2 hn9 hk9
            rw [Pw.s_rr] at hn9
            replace x0 := hn9
            replace a0 := a0.kp1 hk9 (by omega)
            replace a1 := a1.kp1 hk9 (by omega)
            replace hB := hB.trans (hk9.below1 (by omega) hB.size)
            refine hK.out _ _ (hHeld.kp1 hk9 (by omega)) (fun hHeld => ?_)
            clear hK K hk9 hn9
            try simp only [List.getElem_toArray, List.getElem_cons_succ, List.getElem_cons_zero, Act.put, List.setIfInBounds_toArray, List.set_cons_succ, List.set_cons_zero]
            refine tkH 11 (v := ?v32) rfl (by kernel_rfl) (fun _ _ _ h => h) (Or.inl ⟨by rfl, ?hy32⟩) hHeld ?rest32
            case hy32 => (intro w hSw; clear hSw; go_simp; try with_reducible rfl)
            try simp only [List.getElem_toArray, List.getElem_cons_succ, List.getElem_cons_zero, Act.put, List.setIfInBounds_toArray, List.set_cons_succ, List.set_cons_zero]
            refine wpAnyH_ready (rs := [12]) (by kernel_rfl) (by simp) ?_
            refine AllReadyH.cons rfl (fun K hK => ?_) (AllReadyH.nil)
            rw [if_pos (by rfl)]
            refine wp_store_part 41 _ _ rfl (off := 109) (cells := frc Kx.f) x0 rfl rfl sizeFr (show 109 + 36 ≤ 145 by decide) (frc_one _) ?_
            intro u3 hn9 hk9
            rw [Pw.s_f2] at hn9
            replace x0 := hn9
            replace a0 := a0.kp1 hk9 (by omega)
            replace a1 := a1.kp1 hk9 (by omega)
            replace hB := hB.trans (hk9.below1 (by omega) hB.size)
            refine hK.out _ _ (hHeld.kp1 hk9 (by omega)) (fun hHeld => ?_)
            clear hK K hk9 hn9
            try simp only [List.getElem_toArray, List.getElem_cons_succ, List.getElem_cons_zero, Act.put, List.setIfInBounds_toArray, List.set_cons_succ, List.set_cons_zero]
            refine wpAnyH_done (by kernel_rfl) ?_ _
            go_wp2_with fail
            go_meet
            exact ⟨rfl, x0, a0, a1, hB⟩
        case rest =>
          obtain ⟨rfl, x0', a0', a1', hB'⟩ := hcut
          clear x0 a0 a1 hB
          rename World => WN
          have x0 := x0'
          have a0 := a0'
          have a1 := a1'
          have hB := hB'
          clear x0' a0' a1' hB'
          clear hR0 hR1 hR2 y0
          go_wp2_with (first | refine load_blk rfl 50 _ rfl x0 rfl Try.underlying50 rfl sizePk ?_ | (refine store_part rfl 50 _ _ rfl (off := 0) (cells := pwc (Pw.mk s c.own c.conf c.mem C1 c.pr c.want c.rdy c.epoch o G0 G1 R0 R1 R2)) a1 rfl rfl sizePk (Nat.le_refl _) (pwc_one _) ?_; intro w9 b9 k9; rw [pwc_all] at b9; have hB9 : Below w.heap.size w w9 := hB.trans (k9.below1 (by omega) hB.size)))
          exact bodyPost_ret (w := w9) (v := .agg (pwc (Pw.mk s c.own c.conf c.mem C1 c.pr c.want c.rdy c.epoch o G0 G1 R0 R1 R2))) (ret_one rfl rfl b9 Try.underlying50 rfl sizePk) rfl ⟨rfl, hB9⟩

end Go.Proofs.Ythgmecgknhphmaa
