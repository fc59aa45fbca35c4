/-
  What a core does with a packet, as the document's own call says (congressref13.Receive).
  Of a Self from 0 to 7, an Own that is not 0; its numbers are such as its types hold; what it keeps takes no more bytes than a list may.
-/
import Derived.Test.YthgmecgknhphmaaCfK
import Derived.Test.YthgmecgknhphmaaCeQ
import Derived.Test.YthgmecgknhphmaaGaC
import Derived.Test.YthgmecgknhphmaaBtR
namespace Go.Proofs.Ythgmecgknhphmaa
set_option maxRecDepth 10000
set_option linter.unusedSimpArgs false
open Go.RowKit Go.Sort
set_option linter.unusedVariables false

theorem max2_run {P : Program} (ts : Array TypeId) (t : TypeId) (x y : Nat) (w : World) : (Builtin.max_ ts t #[.int .u32 (x : Int), .int .u32 (y : Int)]).run P w = .ok (.int .u32 ((max x y : Nat) : Int)) w := by
  have e : (Builtin.max_ ts t #[.int .u32 (x : Int), .int .u32 (y : Int)]).run P w = .ok (.int .u32 (if (y : Int) > (x : Int) then (y : Int) else (x : Int))) w := by simp [Builtin.max_, Builtin.max2]
  rw [e]
  congr 2
  split <;> omega
theorem wp_load_whole {P : Program} {op : Oper} {a : Act} {w : World} {K : Act → World → Prop} {Q : Exit → Act → World → Prop} (ty : TypeId) (x : Operand) (ho : op.op = .load ty x) {B : Nat} {C : Array Value} {T : TypeId} (hB : Blk B C T w) (hx : a.eval x = .pointer (some ⟨B, 0, none⟩)) {d : TypeDesc} (hu : P.underlying ty = some d) (hd : d.isRow = true) (hi : (P.info? ty).map (·.size) = some C.size)
    (h : K (a.put op.dst (.agg C)) w) : op.wp P a w K Q := wp_load_row ty x ho B hx T C (0, 0) d hB hu (by cases d <;> first | rfl | exact hd) hi h
theorem Did.sim {s u : Sg} {b : Bool} {B : Nat} {e : Ending} {w : World} (h : Did s b B e w) (hs : Sg.sim s u) : Did u b B e w := by
  obtain ⟨a, k, ta, tk, h1, h2, h3⟩ := h
  obtain ⟨g1, g2, g3⟩ := hs
  rw [g1, g2, g3] at h1
  rw [g2] at h2
  rw [g3] at h3
  exact ⟨a, k, ta, tk, h1, h2, h3⟩
def upO (o k : Nat) : Nat → Nat := fun i => if i < k then o else 0
theorem upO_set (o k : Nat) (hk : k < 8) : (mbc (upO o k)).setIfInBounds k (.int .u32 (o : Int)) = mbc (upO o (k + 1)) := by
  rw [mbc_put _ k o hk]
  refine mbc_ext fun i _ => ?_
  unfold put8 upO
  by_cases h : i = k
  · rw [if_pos h, if_pos (by omega)]
  · rw [if_neg h]
    by_cases h2 : i < k
    · rw [if_pos h2, if_pos (by omega)]
    · rw [if_neg h2, if_neg (by omega)]
theorem upO_all (o : Nat) : mbc (upO o 8) = mbc (fun _ => o) := mbc_ext fun i hi => if_pos hi
theorem upO_no (o : Nat) : mbc (upO o 0) = mbc noMb := mbc_ext fun i hi => if_neg (by omega)

set_option maxRecDepth 60000 in
set_option maxHeartbeats 16000000 in
theorem dreceive_ok (e : Co) (L : List Kt) (p : Pk) (s : Nat) (hs : s < 8) (hes : e.self = (s : Int)) (hown : e.own ≠ 0) (kf : e.fit) (hn : e.kn = L.length) (hl : L.length * 352 ≤ 140737488351232) (w : World) (lS : Li Kt.vals 0 e.ka L w) :
    Calls Try.prog 19 #[.agg (coc e), .agg (pkc p)] w fun r w' => Did (recvS e L p) (heedB e p) 0 r w' ∧ Below w.heap.size w w' := by
  have pF := rfits_ok e
  have hfb : fitsB e = true := by unfold fitsB; rw [hes]; exact decide_eq_true ⟨by omega, by omega, hown⟩
  rw [hfb] at pF
  obtain ⟨i, hii⟩ : ∃ i, p.n 0 = i := ⟨_, rfl⟩
  have hi32 : i < 4294967296 := by rw [← hii]; exact p.lt 0
  have pg0 : (pkc p)[0]? = some (.int .u32 (i : Int)) := by rw [pk_get0 p, hii]
  have pg1 : (pkc p)[1]? = some (.int .u32 (p.n 1 : Int)) := rfl
  have pH := rhear_ok e.beat (i : Int) (p.n 1)
  obtain ⟨H, hH⟩ : ∃ H, hearsB e.beat (i : Int) (p.n 1) = H := ⟨_, rfl⟩
  obtain ⟨bt, hbt⟩ : ∃ b, hearB e.beat (i : Int) (p.n 1) = b := ⟨_, rfl⟩
  rw [hH, hbt] at pH
  have hheed : heedB e p = (!decide ((i : Int) = (s : Int)) && H) := by rw [heedB, hii, hes, hH]
  have hH8 : H = true → i < 8 := fun h => by
    rw [h] at hH
    unfold hearsB at hH
    have := of_decide_eq_true hH
    omega
  have hno : ∀ u, heedB e p = false → Below w.heap.size w u → Did (recvS e L p) (heedB e p) 0 (.returned (.tuple #[.agg (coc e), .bool false, (.slice none 0 0)])) u := fun u h hb => by
    rw [recvS, h]
    refine ⟨e.ka, e.kc, none, 0, ?_, lS.below hb, Li.nil _ _ _⟩
    show _ = Ending.returned (.tuple #[.agg (coc (e.kp e.ka L.length e.kc)), .bool false, (.slice none 0 0)])
    rw [kp_self e L.length hn]
  have HHeed : Hid (heedB e p = (!decide ((i : Int) = (s : Int)) && H)) := hheed
  -- what comes of it
  obtain ⟨e1, he1⟩ : ∃ c, Hid (e.wBeat bt = c) := ⟨_, rfl⟩
  obtain ⟨e2, he2⟩ : ∃ c, Hid (e1.wPeer i (updP (e.peers i) (told p)) = c) := ⟨_, rfl⟩
  obtain ⟨M, hM⟩ : ∃ M, max e.epoch (max (p.n 33) (p.n 21)) = M := ⟨_, rfl⟩
  obtain ⟨e3, he3⟩ : ∃ c, Hid (e2.wEpoch M = c) := ⟨_, rfl⟩
  have hg3 : hearC e p = e3 := by
    rw [← he3.out, ← he2.out, ← he1.out, ← hM, ← hbt]
    unfold hearC
    rw [hii]
    try rfl
  have pA := radopt_ok e.pr (s : Int) e.own p
  obtain ⟨A, hA⟩ : ∃ A, adoptB e.pr (s : Int) e.own p = A := ⟨_, rfl⟩
  rw [hA] at pA
  obtain ⟨e8, he8⟩ : ∃ c, Hid (recv0 e p = c) := ⟨_, rfl⟩
  have h3p : e3.pr = e.pr ∧ e3.self = e.self ∧ e3.own = e.own := by rw [← hg3]; exact ⟨rfl, rfl, rfl⟩
  have h8y : A = true → e8 = promC e3 p.pr p.want := fun h => by rw [← he8.out, recv0, hg3, adopC, h3p.1, h3p.2.1, h3p.2.2, hes, hA, h, if_pos rfl]
  have h8n : A = false → e8 = e3 := fun h => by rw [← he8.out, recv0, hg3, adopC, h3p.1, h3p.2.1, h3p.2.2, hes, hA, h, if_neg (by simp)]
  have h3k : e3.ka = e.ka ∧ e3.kn = L.length ∧ e3.kc = e.kc := by rw [← hg3]; exact ⟨rfl, hn, rfl⟩
  have h8k : e8.ka = e.ka ∧ e8.kn = L.length ∧ e8.kc = e.kc := by
    cases A with
    | true => rw [h8y rfl]; exact h3k
    | false => rw [h8n rfl]; exact h3k
  have h8s : e8.self = (s : Int) := by rw [← he8.out, recv0_self]; exact hes
  have h8c : ∀ j, e8.count j < 4294967296 := by rw [← he8.out, recv0_count]; exact kf.count
  obtain ⟨S8, hS8⟩ : ∃ S, offS ⟨e8, L, []⟩ p = S := ⟨_, rfl⟩
  obtain ⟨S9, hS9⟩ : ∃ S, goOnS S8 = S := ⟨_, rfl⟩
  have hyes : heedB e p = true → recvS e L p = S9 := fun h => by rw [recvS, h, if_pos rfl, recvY, he8.out, hS8]; exact hS9
  have hl8 : S8.t.length ≤ 0 + 3 := by rw [← hS8]; exact (offS_len ⟨e8, L, []⟩ p).2
  have HYes : Hid (heedB e p = true → recvS e L p = S9) := hyes
  have h8e : Hid (e8.kp e.ka L.length e.kc = e8) := by show _ = _; rw [← h8k.1, ← h8k.2.2]; exact kp_self _ _ h8k.2.1
  -- what is taken
  obtain ⟨C9, hC9⟩ : ∃ C, Idn.same p.conf e8.conf = C := ⟨_, rfl⟩
  obtain ⟨t8, ht8⟩ : ∃ t, Idn.same e8.pr e8.conf = t := ⟨_, rfl⟩
  obtain ⟨r8, hr8⟩ : ∃ t, e8.rdy = t := ⟨_, rfl⟩
  obtain ⟨A8, hA8⟩ : ∃ t, allB e8 = t := ⟨_, rfl⟩
  have hg8 : gathB e8 = !t8 := by rw [gathB, ht8]
  have hmost : mostB e8 = (t8 || (!r8 && A8)) := by rw [mostB, hg8, hr8, hA8, Bool.not_not]
  have hoff : S8 = if (mostB e8 && C9) = true then offedS ⟨e8, L, []⟩ p else ⟨e8, L, []⟩ := by rw [← hS8, ← hC9]; rfl
  have HSame : Hid ((mostB e8 && C9) = false → S8 = ⟨e8, L, []⟩) := fun h => by rw [hoff, h]; rfl
  have HTook : Hid ((mostB e8 && C9) = true → S8 = ⟨e8.wCount (offO e8.mem (mostC e8) p ⟨L, e8.count, []⟩).c, (offO e8.mem (mostC e8) p ⟨L, e8.count, []⟩).L, (offO e8.mem (mostC e8) p ⟨L, e8.count, []⟩).t.map takeH⟩) := fun h => by
    rw [hoff, h, if_pos rfl]
    show Sg.mk (e8.wCount (offO e8.mem (mostC e8) p ⟨L, e8.count, []⟩).c) (offO e8.mem (mostC e8) p ⟨L, e8.count, []⟩).L ([] ++ (offO e8.mem (mostC e8) p ⟨L, e8.count, []⟩).t.map takeH) = _
    rw [List.nil_append]
  have HMost : Hid (mostB e8 = (t8 || (!r8 && A8))) := hmost
  have HMc : Hid (mostC e8 = if t8 = true then fun _ => ownN e8 else targC e8) := by
    show mostC e8 = _
    rw [mostC, hg8]
    cases t8 <;> rfl
  have kC9 : ∀ w, (binOp .eql 27 (.agg p.conf.vals.toArray) (.agg e8.conf.vals.toArray)).run Try.prog w = .ok (.bool C9) w := eqlIdn _ _ C9 hC9
  have kt8 : ∀ w, (binOp .eql 27 (.agg e8.pr.vals.toArray) (.agg e8.conf.vals.toArray)).run Try.prog w = .ok (.bool t8) w := eqlIdn _ _ t8 ht8
  have pAll := rall_ok e8
  rw [hA8] at pAll
  have pTg := rtarget_ok e8
  have pK := fun (y9 q9 : Nat) (o : Nat → Nat) (u : World) (h : Below w.heap.size w u) (hP : ∀ x ∈ [y9, q9], w.heap.size ≤ x ∧ x < u.heap.size) => dtake_ok [y9, q9] e8 L p o h8c h8k.2.1 hl w u h hP (by rw [h8k.1]; exact lS)
  have pG := fun (P : List Nat) (B : Nat) (v : Value) (u : World) (hBu : B ≤ u.heap.size) (h : Rv P B S8 v u) => rgoOn_ok P B S8 v (by omega) u hBu h
  rw [hS9] at pG
  have hwi : IntKind.i64.wrap (i : Int) = (i : Int) := by rw [IntKind.wrap_i64]; omega
  have hmx1 := fun w => max2_run (P := Try.prog) #[22, 22] 22 (p.n 33) (p.n 21) w
  have hmx2 := fun w => max2_run (P := Try.prog) #[22, 22] 22 e.epoch (max (p.n 33) (p.n 21)) w
  rw [hM] at hmx2
  obtain ⟨M1, hM1⟩ : ∃ M, max (p.n 33) (p.n 21) = M := ⟨_, rfl⟩
  rw [hM1] at hmx1 hmx2
  have eo8 : e8.count s = ownN e8 := by rw [ownN, h8s, Int.toNat_natCast]
  obtain ⟨o8, ho8⟩ : ∃ o, ownN e8 = o := ⟨_, rfl⟩
  rw [ho8] at eo8 HMc
  have Hhn : Hid (∀ u, heedB e p = false → Below w.heap.size w u → Did (recvS e L p) (heedB e p) 0 (.returned (.tuple #[.agg (coc e), .bool false, (.slice none 0 0)])) u) := hno
  clear hfb hH hbt hheed hno hM hM1 hg3 hA he8 h3p h3k h8c hS8 hS9 hyes hC9 ht8 hA8 hg8 hmost hoff ho8 hown kf hii h8s
  obtain ⟨a0, a1, a2, hB⟩ := three_blk (T0 := 35) (T1 := 50) (T2 := 35) (C0 := coc e) (C1 := pkc p) (C2 := coc Co.zero) (w := w) rfl
  go_enter Try.func19, Try.ntmps19
  go_upto_region 1 with (go_big_may; refine alloc_zero zeroCo rfl rfl ?_)
  try simp only [Act.put, List.setIfInBounds_toArray, List.set_cons_zero, List.set_cons_succ]
  try simp only [alloc_size]
  generalize ((w.alloc (Obj.cells (coc e) 35)).alloc (Obj.cells (pkc p) 50)).alloc (Obj.cells (coc Co.zero) 35) = W at a0 a1 a2 hB ⊢
  obtain ⟨q, hq⟩ : ∃ q, w.heap.size = q := ⟨_, rfl⟩
  rw [hq] at a0 a1 a2 ⊢
  go_wp2_with (refine load_blk rfl 35 _ rfl a0 rfl Try.underlying35 rfl sizeCo ?_)
  refine (pF _).mono ?_
  rintro r w1 ⟨rfl, hb⟩
  replace a0 := a0.below hb
  replace a1 := a1.below hb
  replace a2 := a2.below hb
  replace hB := hB.trans (hb.mono hB.size)
  clear hb pF
  have c0 := a1.cell 0 _ pg0
  have c1 : w1.cell? ⟨q, 0, none⟩ = some (.int .i64 (s : Int)) := (a0.cell 0 (.int .i64 e.self) rfl).trans (by rw [hes])
  by_cases h7 : 7 < i
  · have g7 : (7 : Int) < (i : Int) := by omega
    have HNo : Hid (∀ u, Below w.heap.size w u → Did (recvS e L p) (heedB e p) 0 (.returned (.tuple #[.agg (coc e), .bool false, (.slice none 0 0)])) u) := fun u hb => by
      refine Hhn.out u ?_ hb
      rw [HHeed.out]
      cases H with
      | false => simp
      | true => exact absurd (hH8 rfl) (by omega)
    clear Hhn HHeed hH8 pH pA pAll pTg pK pG kC9 kt8 hmx1 hmx2 h8y h8n HSame HTook HMost HMc HYes
    go_upto_region 2 with fail
    go_wp2_with (first | refine load_blk rfl 35 _ rfl a0 rfl Try.underlying35 rfl sizeCo ?_ | (refine store_part rfl 35 _ _ rfl (off := 0) (cells := coc e) a2 rfl rfl sizeCo (Nat.le_refl _) (coc_one _) ?_; intro w9 b9 k9; rw [Co.all] at b9))
    replace hB := hB.trans (k9.below1 (by omega) hB.size)
    exact bodyPost_ret (v := .tuple #[.agg (coc e), .bool false, (.slice none 0 0)]) (ret_ctt rfl rfl b9 Try.underlying35 rfl sizeCo rfl rfl) rfl ⟨HNo.out _ hB, by first | exact hB | (rw [← hq]; exact hB)⟩
  have g7 : ¬ (7 : Int) < (i : Int) := by omega
  by_cases hse : (i : Int) = (s : Int)
  · have gse : ((i : Int) == (s : Int)) = true := by rw [beq_iff_eq]; exact hse
    have HNo : Hid (∀ u, Below w.heap.size w u → Did (recvS e L p) (heedB e p) 0 (.returned (.tuple #[.agg (coc e), .bool false, (.slice none 0 0)])) u) := fun u hb => by
      refine Hhn.out u ?_ hb
      rw [HHeed.out, hse]
      simp
    clear Hhn HHeed hH8 pH pA pAll pTg pK pG kC9 kt8 hmx1 hmx2 h8y h8n HSame HTook HMost HMc HYes
    go_upto_region 2 with fail
    go_wp2_with (first | refine load_blk rfl 35 _ rfl a0 rfl Try.underlying35 rfl sizeCo ?_ | (refine store_part rfl 35 _ _ rfl (off := 0) (cells := coc e) a2 rfl rfl sizeCo (Nat.le_refl _) (coc_one _) ?_; intro w9 b9 k9; rw [Co.all] at b9))
    replace hB := hB.trans (k9.below1 (by omega) hB.size)
    exact bodyPost_ret (v := .tuple #[.agg (coc e), .bool false, (.slice none 0 0)]) (ret_ctt rfl rfl b9 Try.underlying35 rfl sizeCo rfl rfl) rfl ⟨HNo.out _ hB, by first | exact hB | (rw [← hq]; exact hB)⟩
  have gse : ((i : Int) == (s : Int)) = false := by rw [beq_eq_false_iff_ne]; exact hse
  have Hse : Hid (¬ (i : Int) = (s : Int)) := hse
  go_upto_region 3 with fail
  clear hse gse g7 c0 c1
  have c0 := a1.cell 0 _ pg0
  have c1 := a1.cell 1 _ pg1
  go_wp2_with (refine load_part rfl 25 _ rfl (o := 3) a0 rfl e.beat.vals e.p_beat Try.underlying25 rfl sizeBt ?_)
  refine (pH _).mono ?_
  rintro r w2 ⟨rfl, hb⟩
  replace a0 := a0.below hb
  replace a1 := a1.below hb
  replace a2 := a2.below hb
  replace hB := hB.trans (hb.mono hB.size)
  clear hb pH c0 c1
  have hb := below_box w2 (.cells bt.arr 25)
  have b0 := blk_new w2 bt.arr 25
  have h_yb := a2.lt
  go_upto_region 4 with (go_big_may; first | refine alloc_zero zeroBt rfl rfl ?_ | refine store_new rfl 25 _ _ rfl (cells := bt.arr) rfl rfl sizeBt rfl (Bt.arr_one _) ?_)
  try simp only [Act.put, List.setIfInBounds_toArray, List.set_cons_zero, List.set_cons_succ]
  generalize w2.alloc (Obj.cells bt.arr 25) = W2 at b0 hb ⊢
  replace a0 := a0.below hb
  replace a1 := a1.below hb
  replace a2 := a2.below hb
  replace hB := hB.trans (hb.mono hB.size)
  clear hb 
  generalize w2.heap.size = yb at b0 h_yb ⊢
  cases H with
  | false =>
    have HNo : Hid (∀ u, Below w.heap.size w u → Did (recvS e L p) (heedB e p) 0 (.returned (.tuple #[.agg (coc e), .bool false, (.slice none 0 0)])) u) := fun u hb => by
      refine Hhn.out u ?_ hb
      rw [HHeed.out]
      simp
    clear Hhn HHeed hH8 pA pAll pTg pK pG kC9 kt8 hmx1 hmx2 h8y h8n HSame HTook HMost HMc HYes b0
    go_upto_region 5 with fail
    go_wp2_with (first | refine load_blk rfl 35 _ rfl a0 rfl Try.underlying35 rfl sizeCo ?_ | (refine store_part rfl 35 _ _ rfl (off := 0) (cells := coc e) a2 rfl rfl sizeCo (Nat.le_refl _) (coc_one _) ?_; intro w9 b9 k9; rw [Co.all] at b9))
    replace hB := hB.trans (k9.below1 (by omega) hB.size)
    exact bodyPost_ret (v := .tuple #[.agg (coc e), .bool false, (.slice none 0 0)]) (ret_ctt rfl rfl b9 Try.underlying35 rfl sizeCo rfl rfl) rfl ⟨HNo.out _ hB, by first | exact hB | (rw [← hq]; exact hB)⟩
  | true =>
    have hi : i < 8 := hH8 rfl
    have i0 : (i : Int) < 8 := by omega
    have i1 : (0 : Int) ≤ (i : Int) := by omega
    have HY : Hid (heedB e p = true ∧ recvS e L p = S9) := by
      have h1 : heedB e p = true := by rw [HHeed.out]; simp [Hse.out]
      exact ⟨h1, HYes.out h1⟩
    clear Hhn HHeed hH8 HYes Hse hi32 h7
    go_upto_region 6 with fail
    have hb := below_box W2 (.cells (unc e (.slice none 0 0)) 83)
    have y0 := blk_new W2 (unc e (.slice none 0 0)) 83
    have h_y := b0.lt
    go_upto_region 7 with (go_big_may; first | refine load_blk rfl 35 _ rfl a0 rfl Try.underlying35 rfl sizeCo ?_ | (refine build_as rfl 83 #[(0, .tmp 43)] rfl (C := unc e (.slice none 0 0)) ?_ ?_; kernel_rfl) | refine alloc_zero zeroSg rfl rfl ?_ | refine store_new rfl 83 _ _ rfl (cells := (unc e (.slice none 0 0))) rfl rfl sizeSg rfl (unc_one _ _ _ _) ?_)
    try simp only [Act.put, List.setIfInBounds_toArray, List.set_cons_zero, List.set_cons_succ]
    generalize W2.alloc (Obj.cells (unc e (.slice none 0 0)) 83) = W3 at y0 hb ⊢
    replace a0 := a0.below hb
    replace a1 := a1.below hb
    replace a2 := a2.below hb
    replace b0 := b0.below hb
    replace hB := hB.trans (hb.mono hB.size)
    clear hb 
    generalize W2.heap.size = y at y0 h_y ⊢
    go_upto_region 8 with (go_big_may; first | refine load_blk rfl 25 _ rfl b0 rfl Try.underlying25 rfl sizeBt ?_ | (refine store_part rfl 25 _ _ rfl (off := 3) (cells := bt.arr) y0 rfl rfl sizeBt (show 3 + 17 ≤ 190 by decide) (Bt.arr_one _) ?_; intro w4 b4 k4; rw [unc_put _ _ _ 3 _ (Co.s_beat e bt) (show 3 + 17 ≤ 189 by decide)] at b4))
    try simp only [Act.put]
    replace a0 := a0.kp1 k4 (by omega)
    replace a1 := a1.kp1 k4 (by omega)
    replace a2 := a2.kp1 k4 (by omega)
    replace hB := hB.trans (k4.below1 (by omega) hB.size)
    clear k4 y0 b0
    have y0 : Blk y (unc e1 (.slice none 0 0)) 83 w4 := by rw [← he1.out]; exact b4
    clear b4
    have hq2y : q + 1 + 1 < y := by omega
    go_cut [9] from 48 to 59 (fun v wx => v = .pointer (some ⟨y, 0, none⟩) ∧ Blk y (unc e2 (.slice none 0 0)) 83 wx ∧ Blk q (coc e) 35 wx ∧ Blk (q + 1) (pkc p) 50 wx ∧ Blk (q + 1 + 1) (coc Co.zero) 35 wx ∧ Below w.heap.size w wx)
    case first =>
      clear pA pAll pTg pK pG kC9 kt8 hmx1 hmx2 h8y h8n HSame HTook HMost HMc HY
      have hA0 := a0.drew
      have hA1 := a1.drew
      replace a2 := a2.drew
      replace y0 := y0.drew
      replace hB := hB.drew
      clear a0 a1
      refine wp_region_held_drew (S := fun w' => Blk q (coc e) 35 w' ∧ Blk (q + 1) (pkc p) 50 w') (by kernel_rfl) ⟨hA0, hA1⟩ (fun hHeld => ?_)
      refine tkH 0 (v := ?v1) rfl (by kernel_rfl) (fun _ _ _ h => h) (Or.inl ⟨by rfl, ?hy1⟩) hHeld ?rest1
      case hy1 => (intro w hSw; clear hSw; go_simp; try with_reducible rfl)
      try simp only [List.getElem_toArray, List.getElem_cons_succ, List.getElem_cons_zero, Act.put, List.setIfInBounds_toArray, List.set_cons_succ, List.set_cons_zero]
      refine tkH 1 (v := ?v2) rfl (by kernel_rfl) (fun _ _ _ h => h) (Or.inl ⟨by rfl, ?hy2⟩) hHeld ?rest2
      case hy2 => (intro w hSw; have hc : w.cell? ⟨q + 1, 0, none⟩ = some (.int .u32 (i : Int)) := (hSw.2.cell 0 _ pg0); clear hSw; go_simp; try with_reducible rfl)
      try simp only [List.getElem_toArray, List.getElem_cons_succ, List.getElem_cons_zero, Act.put, List.setIfInBounds_toArray, List.set_cons_succ, List.set_cons_zero]
      refine tkH 2 (v := ?v3) rfl (by kernel_rfl) (fun _ _ _ h => h) (Or.inl ⟨by rfl, ?hy3⟩) hHeld ?rest3
      case hy3 => (intro w hSw; clear hSw; go_simp; try with_reducible rfl)
      try simp only [List.getElem_toArray, List.getElem_cons_succ, List.getElem_cons_zero, Act.put, List.setIfInBounds_toArray, List.set_cons_succ, List.set_cons_zero]
      refine tkH 3 (v := ?v4) rfl (by kernel_rfl) (fun _ _ _ h => h) (Or.inl ⟨by rfl, ?hy4⟩) hHeld ?rest4
      case hy4 => (intro w hSw; have hc : w.cell? ⟨q + 1, 0, none⟩ = some (.int .u32 (i : Int)) := (hSw.2.cell 0 _ pg0); clear hSw; go_simp; try with_reducible rfl)
      try simp only [List.getElem_toArray, List.getElem_cons_succ, List.getElem_cons_zero, Act.put, List.setIfInBounds_toArray, List.set_cons_succ, List.set_cons_zero]
      refine tkH 4 (v := ?v5) rfl (by kernel_rfl) (fun _ _ _ h => h) (Or.inl ⟨by rfl, ?hy5⟩) hHeld ?rest5
      case hy5 => (intro w hSw; clear hSw; go_simp; try with_reducible rfl)
      try simp only [List.getElem_toArray, List.getElem_cons_succ, List.getElem_cons_zero, Act.put, List.setIfInBounds_toArray, List.set_cons_succ, List.set_cons_zero]
      refine tkH 5 (v := ?v6) rfl (by kernel_rfl) (fun _ _ _ h => h) (Or.inl ⟨by rfl, ?hy6⟩) hHeld ?rest6
      case hy6 => (intro w hSw; clear hSw; go_simp; try with_reducible rfl)
      try simp only [List.getElem_toArray, List.getElem_cons_succ, List.getElem_cons_zero, Act.put, List.setIfInBounds_toArray, List.set_cons_succ, List.set_cons_zero]
      refine' tkH 6 (v := _) rfl (by kernel_rfl) (fun _ _ _ h => h) (yieldsIf_load_mid (by rfl) _ _ rfl q (60 + i * 16) rfl (e.peers i).vals _ ?hS7 Try.underlying32 rfl sizePe) hHeld ?rest7
      case hS7 => exact fun w h => h.1.range (60 + i * 16) _ (e.p_peer i hi)
      try simp only [List.getElem_toArray, List.getElem_cons_succ, List.getElem_cons_zero, Act.put, List.setIfInBounds_toArray, List.set_cons_succ, List.set_cons_zero]
      refine' tkH 7 (v := _) rfl (by kernel_rfl) (fun _ _ _ h => h) (yieldsIf_load_mid (by rfl) _ _ rfl (q + 1) 0 rfl (pkl p) _ ?hS8 Try.underlying50 rfl sizePk) hHeld ?rest8
      case hS8 => exact fun w h => h.2.whole
      try simp only [List.getElem_toArray, List.getElem_cons_succ, List.getElem_cons_zero, Act.put, List.setIfInBounds_toArray, List.set_cons_succ, List.set_cons_zero]
      refine tkH 9 (v := ?v9) rfl (by kernel_rfl) (fun _ _ _ h => h) (Or.inl ⟨by rfl, ?hy9⟩) hHeld ?rest9
      case hy9 => (intro w hSw; clear hSw; go_simp; try with_reducible rfl)
      try simp only [List.getElem_toArray, List.getElem_cons_succ, List.getElem_cons_zero, Act.put, List.setIfInBounds_toArray, List.set_cons_succ, List.set_cons_zero]
      refine tkH 10 (v := ?v10) rfl (by kernel_rfl) (fun _ _ _ h => h) (Or.inl ⟨by rfl, ?hy10⟩) hHeld ?rest10
      case hy10 => (intro w hSw; clear hSw; go_simp; try with_reducible rfl)
      try simp only [List.getElem_toArray, List.getElem_cons_succ, List.getElem_cons_zero, Act.put, List.setIfInBounds_toArray, List.set_cons_succ, List.set_cons_zero]
      refine wpAnyH_ready (rs := [8]) (by kernel_rfl) (by simp) ?_
      refine AllReadyH.cons rfl (fun K hK => ?_) (AllReadyH.nil)
      go_simp
      go_wp2_with (refine (rupdate_ok (e.peers i) p _).mono ?_; rintro r u1 ⟨rfl, hb⟩)
      replace y0 := y0.below hb
      replace a2 := a2.below hb
      replace hB := hB.trans (hb.mono hB.size)
      refine hK.out _ _ ⟨hHeld.1.below hb, hHeld.2.below hb⟩ (fun hHeld => ?_)
      clear hK K hb
      refine tkH 11 (v := ?v11) rfl (by kernel_rfl) (fun _ _ _ h => h) (Or.inl ⟨by rfl, ?hy11⟩) hHeld ?rest11
      case hy11 => (intro w hSw; clear hSw; go_simp; try with_reducible rfl)
      try simp only [List.getElem_toArray, List.getElem_cons_succ, List.getElem_cons_zero, Act.put, List.setIfInBounds_toArray, List.set_cons_succ, List.set_cons_zero]
      refine wpAnyH_ready (rs := [12]) (by kernel_rfl) (by simp) ?_
      refine AllReadyH.cons rfl (fun K hK => ?_) (AllReadyH.nil)
      rw [if_pos (by rfl)]
      refine wp_store_part 32 _ _ rfl (off := 60 + i * 16) (cells := (updP (e.peers i) (told p)).arr) y0 rfl rfl sizePe (show 60 + i * 16 + 16 ≤ 190 by omega) (Pe.arr_one _) ?_
      intro u2 hn9 hk9
      rw [unc_put _ _ _ (60 + i * 16) _ (Co.s_peer e1 i (updP (e.peers i) (told p)) hi) (show 60 + i * 16 + 16 ≤ 189 by omega)] at hn9
      replace y0 := hn9
      replace a2 := a2.kp1 hk9 (by omega)
      replace hB := hB.trans (hk9.below1 (by omega) hB.size)
      refine hK.out _ _ ⟨hHeld.1.kp1 hk9 (by omega), hHeld.2.kp1 hk9 (by omega)⟩ (fun hHeld => ?_)
      clear hK K hk9 hn9
      try simp only [List.getElem_toArray, List.getElem_cons_succ, List.getElem_cons_zero, Act.put, List.setIfInBounds_toArray, List.set_cons_succ, List.set_cons_zero]
      refine wpAnyH_done (by kernel_rfl) ?_ _
      go_wp2_with fail
      go_meet
      exact ⟨rfl, by rw [← he2.out]; exact y0, hHeld.1, hHeld.2, a2, hB⟩
    case rest =>
    clear y0 a0 a1 a2 hB
    obtain ⟨rfl, y0, a0, a1, a2, hB⟩ := hcut
    rename World => w5
    have c0 := a0.cell 188 (.int .u32 (e.epoch : Int)) rfl
    have c1 := a1.cell 33 (.int .u32 (p.n 33 : Int)) rfl
    have c2 := a1.cell 21 (.int .u32 (p.n 21 : Int)) rfl
    go_upto_region 10 with (go_big_may; (refine store_one rfl 22 _ _ rfl (off := 188) (.int .u32 (M : Int)) y0 rfl rfl rfl rfl sizeU32 (by rw [unc_size]; decide) ?_; intro w6 b6 k6; rw [unc_set _ _ _ 188 _ (Co.s_epoch e2 M) (by decide)] at b6))
    try simp only [Act.put]
    replace a0 := a0.kp1 k6 (by omega)
    replace a1 := a1.kp1 k6 (by omega)
    replace a2 := a2.kp1 k6 (by omega)
    replace hB := hB.trans (k6.below1 (by omega) hB.size)
    clear k6 y0 c0 c1 c2 hmx1 hmx2
    have y0 : Blk y (unc e3 (.slice none 0 0)) 83 w6 := by rw [← he3.out]; exact b6
    clear b6 he1 he2 he3
    have c0 : w6.cell? ⟨q, 0, none⟩ = some (.int .i64 (s : Int)) := (a0.cell 0 (.int .i64 e.self) rfl).trans (by rw [hes])
    have c1 := a0.cell 2 (.int .u32 (e.own : Int)) rfl
    go_wp2_with (first | refine load_part rfl 27 _ rfl (o := 40) a0 rfl e.pr.vals e.p_pr Try.underlying27 rfl sizeIdn ?_ | refine load_blk rfl 50 _ rfl a1 rfl Try.underlying50 rfl sizePk ?_)
    refine (pA _).mono ?_
    rintro r w7 ⟨rfl, hb⟩
    replace a0 := a0.below hb
    replace a1 := a1.below hb
    replace a2 := a2.below hb
    replace y0 := y0.below hb
    replace hB := hB.trans (hb.mono hB.size)
    clear hb pA c0 c1
    go_upto_if 78 with fail
    go_cut [9] from 79 to 84 (fun v wx => v = .pointer (some ⟨y, 0, none⟩) ∧ Blk y (unc e8 (.slice none 0 0)) 83 wx ∧ Blk q (coc e) 35 wx ∧ Blk (q + 1) (pkc p) 50 wx ∧ Blk (q + 1 + 1) (coc Co.zero) 35 wx ∧ Below w.heap.size w wx)
    case first =>
      clear pAll pTg pK pG kC9 kt8 HSame HTook HMost HMc HY
      cases A with
      | true =>
        have h3 := h8y rfl
        clear h8y h8n
        go_wp2_with (first | refine load_blk rfl 83 _ rfl y0 rfl Try.underlying83 rfl sizeSg ?_ | refine load_part rfl 27 _ rfl (o := 21) a1 rfl p.pr.vals p.p_pr Try.underlying27 rfl sizeIdn ?_ | refine load_part rfl 28 _ rfl (o := 24) a1 rfl (row8 p.want) p.p_want Try.underlying28 rfl sizeMb ?_)
        refine (rprom_ok e3 none 0 0 p.pr p.want _).mono ?_
        rintro r w8 ⟨rfl, hb⟩
        replace a0 := a0.below hb
        replace a1 := a1.below hb
        replace a2 := a2.below hb
        replace y0 := y0.below hb
        replace hB := hB.trans (hb.mono hB.size)
        clear hb 
        rw [← h3]
        clear h3
        go_wp2_with ((refine store_part rfl 83 _ _ rfl (off := 0) (cells := unc e8 (.slice none 0 0)) y0 rfl rfl sizeSg (Nat.le_refl _) (unc_one _ _ _ _) ?_; intro w9 b9 k9; rw [unc_all] at b9))
        go_meet
        replace a0 := a0.kp1 k9 (by omega)
        replace a1 := a1.kp1 k9 (by omega)
        replace a2 := a2.kp1 k9 (by omega)
        replace hB := hB.trans (k9.below1 (by omega) hB.size)
        exact ⟨rfl, b9, a0, a1, a2, hB⟩
      | false =>
        have h3 := h8n rfl
        rw [← h3] at y0
        clear h8y h8n h3
        go_wp2_with fail
        go_meet
        exact ⟨rfl, y0, a0, a1, a2, hB⟩
    case rest =>
    clear y0 a0 a1 a2 hB h8y h8n
    obtain ⟨rfl, y0, a0, a1, a2, hB⟩ := hcut
    rename World => w8
    have pK2 := pK y (q + 1 + 1)
    clear pK
    have pK := pK2
    clear pK2
    go_upto_if 90 with (go_big_may; first | refine load_part rfl 27 _ rfl (o := 2) a1 rfl p.conf.vals p.p_conf Try.underlying27 rfl sizeIdn ?_ | refine load_part rfl 27 _ rfl (o := 20) y0 rfl e8.conf.vals (un_conf _ _) Try.underlying27 rfl sizeIdn ?_)
    have hyl8 := y0.lt
    have hal8 := a2.lt
    -- nothing is taken; what was taken
    have hsame : ∀ u, Below w.heap.size w u → (mostB e8 && C9) = false → Rv [y, q + 1 + 1] (y + 1) S8 (.agg (unc e8 (.slice none 0 0))) u := fun u hb h => by
      rw [HSame.out h]
      refine ⟨e.ka, e.kc, none, 0, ?_, lS.below hb, Lg.none _ _ _, (fun g hg => by cases hg), fun x hx => ?_⟩
      · show _ = Value.agg (unc (e8.kp e.ka L.length e.kc) _)
        rw [h8e.out]
        rfl
      · simp at hx
        exact Off.li lS x (.inr (by omega))
    have HS' : Hid (∀ u, Below w.heap.size w u → (mostB e8 && C9) = false → Rv [y, q + 1 + 1] (y + 1) S8 (.agg (unc e8 (.slice none 0 0))) u) := hsame
    clear hsame HSame h8e
    go_cut [9, 10, 11] from 91 to 129 (fun v v10 v11 wx => v = .pointer (some ⟨y, 0, none⟩) ∧ (∃ C, Blk y C 83 wx ∧ Rv [y, q + 1 + 1] (y + 1) S8 (.agg C) wx) ∧ Blk (q + 1 + 1) (coc Co.zero) 35 wx ∧ Below w.heap.size w wx)
    case first =>
      clear pG HY
      cases C9 with
      | false =>
        have h9 := HS'.out w8 hB (by simp)
        go_wp2_with fail
        go_meet
        exact ⟨rfl, ⟨_, y0, h9⟩, a2, hB⟩
      | true =>
        cases t8 with
        | true =>
          have hT := HTook.out (by rw [HMost.out]; rfl)
          rw [HMc.out, if_pos rfl] at hT
          have HT : Hid (S8 = ⟨e8.wCount (offO e8.mem (fun _ => o8) p ⟨L, e8.count, []⟩).c, (offO e8.mem (fun _ => o8) p ⟨L, e8.count, []⟩).L, (offO e8.mem (fun _ => o8) p ⟨L, e8.count, []⟩).t.map takeH⟩) := hT
          have pK1 := pK (fun _ => o8)
          obtain ⟨SX, hSX⟩ : ∃ S, Sg.mk (e8.wCount (offO e8.mem (fun _ => o8) p ⟨L, e8.count, []⟩).c) (offO e8.mem (fun _ => o8) p ⟨L, e8.count, []⟩).L ((offO e8.mem (fun _ => o8) p ⟨L, e8.count, []⟩).t.map takeH) = S := ⟨_, rfl⟩
          rw [hSX] at pK1 hT
          have HX : Hid (SX = S8) := hT.symm
          clear hT HT hSX pK pTg pAll HTook HMost HMc HS' kC9
          go_upto_region 14 with (go_big_may; first | refine load_part rfl 27 _ rfl (o := 40) y0 rfl e8.pr.vals (un_pr _ _) Try.underlying27 rfl sizeIdn ?_ | refine load_part rfl 27 _ rfl (o := 20) y0 rfl e8.conf.vals (un_conf _ _) Try.underlying27 rfl sizeIdn ?_)
          have hb := below_box w8 (.cells (mbc noMb) 29)
          have z0 := blk_new w8 (mbc noMb) 29
          go_upto_region 15 with (go_big_may; first | (refine build_as rfl 29 #[] rfl (C := mbc noMb) ?_ ?_; kernel_rfl) | refine alloc_zero zeroCt rfl rfl ?_ | refine store_new rfl 29 _ _ rfl (cells := mbc noMb) rfl rfl sizeCt rfl (mbc_one _) ?_)
          try simp only [Act.put, List.setIfInBounds_toArray, List.set_cons_zero, List.set_cons_succ]
          generalize w8.alloc (Obj.cells (mbc noMb) 29) = W8 at z0 hb ⊢
          replace a0 := a0.below hb
          replace a1 := a1.below hb
          replace a2 := a2.below hb
          replace y0 := y0.below hb
          replace hB := hB.trans (hb.mono hB.size)
          clear hb 
          generalize w8.heap.size = z at z0 hyl8 hal8 ⊢
          rw [← upO_no o8] at z0
          go_upto_region 16 with fail
          go_loopw [11] (fun iv wr => ∃ k : Nat, k ≤ 8 ∧ iv = .int .i64 k ∧ Blk z (mbc (upO o8 k)) 29 wr ∧ Blk y (unc e8 (.slice none 0 0)) 83 wr ∧ Blk q (coc e) 35 wr ∧ Blk (q + 1) (pkc p) 50 wr ∧ Blk (q + 1 + 1) (coc Co.zero) 35 wr ∧ Below w.heap.size w wr) (fun iv _ => 8 - (intOf iv).toNat)
          case atStart => exact ⟨0, by omega, rfl, z0, y0, a0, a1, a2, hB⟩
          case round =>
            clear z0 y0 a0 a1 a2 hB
            obtain ⟨k, hk8, rfl, z0, y0, a0, a1, a2, hB⟩ := hrel
            rename World => V
            by_cases hk : k < 8
            · have k0 : (k : Int) < 8 := by omega
              have k1 : (0 : Int) ≤ (k : Int) := by omega
              have s0 : (s : Int) < 8 := by omega
              have s1 : (0 : Int) ≤ (s : Int) := by omega
              have c0 : V.cell? ⟨q, 0, none⟩ = some (.int .i64 (s : Int)) := (a0.cell 0 (.int .i64 e.self) rfl).trans (by rw [hes])
              have c1 : V.cell? ⟨y, 31 + s, none⟩ = some (.int .u32 (o8 : Int)) := (y0.cell (31 + s) (.int .u32 (e8.count s : Int)) (by rw [unc_get _ _ _ (by omega)]; exact e8.get_count s hs)).trans (by rw [eo8])
              have hst := upO_set o8 k hk
              go_wp2_with (refine store_one rfl 22 _ _ rfl (off := k) (.int .u32 (o8 : Int)) z0 rfl rfl rfl rfl sizeU32 (by rw [mbc_size]; omega) ?_; intro w9 b9 k9; rw [hst] at b9)
              exact ⟨⟨k + 1, by omega, by go_num, b9, y0.kp1 k9 (by omega), a0.kp1 k9 (by omega), a1.kp1 k9 (by omega), a2.kp1 k9 (by omega), hB.trans (k9.below1 (by omega) hB.size)⟩, by simp [intOf]; omega⟩
            · have k0 : ¬ (k : Int) < 8 := by omega
              obtain rfl : k = 8 := by omega
              rw [upO_all] at z0
              obtain ⟨MM, hMM⟩ : ∃ m : Nat → Nat, (fun _ => o8) = m := ⟨_, rfl⟩
              rw [hMM] at z0 pK1
              clear hMM
              go_wp2_with (first | refine load_blk rfl 83 _ rfl y0 rfl Try.underlying83 rfl sizeSg ?_ | refine load_blk rfl 50 _ rfl a1 rfl Try.underlying50 rfl sizePk ?_ | refine load_blk rfl 29 _ rfl z0 rfl Try.underlying29 rfl sizeCt ?_)
              have hyV := y0.lt
              have haV := a2.lt
              refine (pK1 _ hB (fun x hx => by simp at hx; omega)).mono ?_
              rintro r w9 ⟨v8, rfl, hR, hb⟩
              rw [HX.out] at hR
              obtain ⟨c9, ta, tk, hcn, hcs9, rfl, hL, hG, hO2, hO6⟩ := hR.open
              clear hR
              have hgin := hG.in
              replace y0 := y0.below hb
              replace a2 := a2.below hb
              replace hB := hB.trans (hb.mono hB.size)
              clear hb 
              go_wp2_with ((refine store_part rfl 83 _ _ rfl (off := 0) (cells := unc c9 (.slice ta S8.t.length tk)) y0 rfl rfl sizeSg (Nat.le_refl _) (unc_one _ _ _ _) ?_; intro w10 b10 k10; rw [unc_all] at b10))
              go_meet
              refine ⟨rfl, ⟨_, b10, ?_⟩, a2.kp1 k10 (by omega), hB.trans (k10.below1 (by omega) hB.size)⟩
              have hoy := hO6 y (by simp)
              have h1 := hL.off k10 (fun x hx => by simp at hx; subst hx; exact hoy)
              have h2 := (hG.away k10 (fun hm => by have := hgin _ hm; omega)).low (show y + 1 ≤ V.heap.size by omega)
              refine Rv.sim (s := ⟨c9, S8.L, S8.t⟩) ⟨c9.ka, c9.kc, ta, tk, ?_, h1, h2, hO2, hO6⟩ ⟨hcs9, rfl, rfl⟩
              show _ = Value.agg (unc (c9.kp c9.ka S8.L.length c9.kc) _)
              rw [kp_self c9 S8.L.length hcn]
        | false =>
          go_upto_region 20 with (go_big_may; first | refine load_part rfl 27 _ rfl (o := 40) y0 rfl e8.pr.vals (un_pr _ _) Try.underlying27 rfl sizeIdn ?_ | refine load_part rfl 27 _ rfl (o := 20) y0 rfl e8.conf.vals (un_conf _ _) Try.underlying27 rfl sizeIdn ?_)
          have c0 := y0.cell 59 (.bool e8.rdy) rfl
          rw [hr8] at c0
          cases r8 with
          | true =>
            have h9 := HS'.out w8 hB (by rw [HMost.out]; rfl)
            go_wp2_with fail
            go_meet
            exact ⟨rfl, ⟨_, y0, h9⟩, a2, hB⟩
          | false =>
            go_wp2_with (refine load_wpart rfl 35 _ rfl (o := 0) y0 rfl (col e8) (unc_core _ _) Try.underlying35 rfl sizeCo ?_)
            refine (pAll _).mono ?_
            rintro r w9 ⟨rfl, hb⟩
            replace a0 := a0.below hb
            replace a1 := a1.below hb
            replace a2 := a2.below hb
            replace y0 := y0.below hb
            replace hB := hB.trans (hb.mono hB.size)
            clear hb pAll c0
            cases A8 with
            | false =>
              have h9 := HS'.out w9 hB (by rw [HMost.out]; rfl)
              go_wp2_with fail
              go_meet
              exact ⟨rfl, ⟨_, y0, h9⟩, a2, hB⟩
            | true =>
              have hT := HTook.out (by rw [HMost.out]; rfl)
              rw [HMc.out, if_neg (by simp)] at hT
              obtain ⟨TG, hTG⟩ : ∃ m, targC e8 = m := ⟨_, rfl⟩
              rw [hTG] at hT pTg
              have pK1 := pK TG
              obtain ⟨SX, hSX⟩ : ∃ S, Sg.mk (e8.wCount (offO e8.mem TG p ⟨L, e8.count, []⟩).c) (offO e8.mem TG p ⟨L, e8.count, []⟩).L ((offO e8.mem TG p ⟨L, e8.count, []⟩).t.map takeH) = S := ⟨_, rfl⟩
              rw [hSX] at pK1 hT
              rw [← hT] at pK1
              clear hT hSX pK HTook HMost HMc HS' kC9 hTG
              have pK := fun u h hP => pK1 u h hP
              clear pK1
              go_upto_region 21 with fail
              have hA1 := a1.drew
              replace a2 := a2.drew
              replace y0 := y0.drew
              replace hB := hB.drew
              clear a0 a1
              have hdone : ∀ (c9 : Co) (ta : Option Addr) (tk : Nat) (u : World), c9.kn = S8.L.length → (∀ a n k, c9.kp a n k = S8.c.kp a n k) → Li Kt.vals 0 c9.ka S8.L u → Lg Hp.vals 50 66 (y + 1) ta tk S8.t u → (∀ g ∈ blkOf ta, Off c9.ka S8.L g) → (∀ x ∈ [y, q + 1 + 1], Off c9.ka S8.L x) → Rv [y, q + 1 + 1] (y + 1) S8 (.agg (unc c9 (.slice ta S8.t.length tk))) u := fun c9 ta tk u hcn hcs9 h1 h2 hO2 hO6 => by
                refine Rv.sim (s := ⟨c9, S8.L, S8.t⟩) ⟨c9.ka, c9.kc, ta, tk, ?_, h1, h2, hO2, hO6⟩ ⟨hcs9, rfl, rfl⟩
                show _ = Value.agg (unc (c9.kp c9.ka S8.L.length c9.kc) (.slice ta S8.t.length tk))
                rw [kp_self c9 S8.L.length hcn]
              refine wp_region_held_drew (S := fun w' => Blk (q + 1) (pkc p) 50 w') (by kernel_rfl) hA1 (fun hHeld => ?_)
              refine' tkH 1 (v := _) rfl (by kernel_rfl) (fun _ _ _ h => h) (yieldsIf_load_mid (by rfl) _ _ rfl (q + 1) 0 rfl (pkl p) _ ?hS12 Try.underlying50 rfl sizePk) hHeld ?rest12
              case hS12 => exact fun w h => h.whole
              try simp only [List.getElem_toArray, List.getElem_cons_succ, List.getElem_cons_zero, Act.put, List.setIfInBounds_toArray, List.set_cons_succ, List.set_cons_zero]
              refine tkH 2 (v := ?v13) rfl (by kernel_rfl) (fun _ _ _ h => h) (Or.inl ⟨by rfl, ?hy13⟩) hHeld ?rest13
              case hy13 => (intro w hSw; clear hSw; go_simp; try with_reducible rfl)
              try simp only [List.getElem_toArray, List.getElem_cons_succ, List.getElem_cons_zero, Act.put, List.setIfInBounds_toArray, List.set_cons_succ, List.set_cons_zero]
              refine wpAnyH_ready (rs := [0, 3]) (by kernel_rfl) (by simp) ?_
              refine AllReadyH.cons rfl (fun K hK => ?_) (AllReadyH.cons rfl (fun K hK => ?_) (AllReadyH.nil))
              · rw [if_pos (by rfl)]
                refine wp_load_whole 83 _ rfl y0 rfl Try.underlying83 rfl sizeSg ?_
                refine hK.out _ _ hHeld (fun hHeld => ?_)
                clear hK K 
                try simp only [List.getElem_toArray, List.getElem_cons_succ, List.getElem_cons_zero, Act.put, List.setIfInBounds_toArray, List.set_cons_succ, List.set_cons_zero]
                refine wpAnyH_ready (rs := [3]) (by kernel_rfl) (by simp) ?_
                refine AllReadyH.cons rfl (fun K hK => ?_) (AllReadyH.nil)
                rw [if_pos (by rfl)]
                refine wp_load_part 35 _ rfl (o := 0) y0 rfl (col e8) (unc_core _ _) Try.underlying35 rfl sizeCo ?_
                refine hK.out _ _ hHeld (fun hHeld => ?_)
                clear hK K 
                try simp only [List.getElem_toArray, List.getElem_cons_succ, List.getElem_cons_zero, Act.put, List.setIfInBounds_toArray, List.set_cons_succ, List.set_cons_zero]
                refine wpAnyH_ready (rs := [4]) (by kernel_rfl) (by simp) ?_
                refine AllReadyH.cons rfl (fun K hK => ?_) (AllReadyH.nil)
                go_simp
                go_wp2_with (refine (pTg _).mono ?_; rintro r u3 ⟨rfl, hb⟩)
                replace y0 := y0.below hb
                replace a2 := a2.below hb
                replace hB := hB.trans (hb.mono hB.size)
                refine hK.out _ _ (hHeld.below hb) (fun hHeld => ?_)
                clear hK K hb
                refine wpAnyH_ready (rs := [5]) (by kernel_rfl) (by simp) ?_
                refine AllReadyH.cons rfl (fun K hK => ?_) (AllReadyH.nil)
                go_simp
                go_wp2_with (refine (pK _ hB (fun x hx => by simp at hx; have := y0.lt; have := a2.lt; omega)).mono ?_; rintro r u4 ⟨v8, rfl, hR, hb⟩)
                have hyl := y0.lt
                have hal := a2.lt
                replace y0 := y0.below hb
                replace a2 := a2.below hb
                replace hB := hB.trans (hb.mono hB.size)
                obtain ⟨c9, ta, tk, hcn, hcs9, rfl, hL, hG, hO2, hO6⟩ := hR.open
                clear hR
                have hgin := hG.in
                refine hK.out _ _ (hHeld.below hb) (fun hHeld => ?_)
                clear hK K hb
                refine wpAnyH_ready (rs := [6]) (by kernel_rfl) (by simp) ?_
                refine AllReadyH.cons rfl (fun K hK => ?_) (AllReadyH.nil)
                rw [if_pos (by rfl)]
                refine wp_store_all 83 _ _ rfl (cells := unc c9 (.slice ta S8.t.length tk)) y0 rfl rfl sizeSg (by rw [unc_size, unc_size]) (unc_one _ _ _ _) ?_
                intro u5 hn9 hk9
                replace y0 := hn9
                replace a2 := a2.kp1 hk9 (by omega)
                replace hL := hL.off hk9 (fun x hx => by simp at hx; subst hx; exact hO6 _ (by simp))
                replace hG := hG.away hk9 (fun hm => by have := hgin _ hm; omega)
                replace hB := hB.trans (hk9.below1 (by omega) hB.size)
                refine hK.out _ _ (hHeld.kp1 hk9 (by omega)) (fun hHeld => ?_)
                clear hK K hk9 hn9
                try simp only [List.getElem_toArray, List.getElem_cons_succ, List.getElem_cons_zero, Act.put, List.setIfInBounds_toArray, List.set_cons_succ, List.set_cons_zero]
                refine wpAnyH_done (by kernel_rfl) ?_ _
                go_wp2_with fail
                go_meet
                exact ⟨rfl, ⟨_, y0, hdone c9 ta tk _ hcn hcs9 hL (hG.low (by omega)) hO2 hO6⟩, a2, hB⟩
              · rw [if_pos (by rfl)]
                refine wp_load_part 35 _ rfl (o := 0) y0 rfl (col e8) (unc_core _ _) Try.underlying35 rfl sizeCo ?_
                refine hK.out _ _ hHeld (fun hHeld => ?_)
                clear hK K 
                try simp only [List.getElem_toArray, List.getElem_cons_succ, List.getElem_cons_zero, Act.put, List.setIfInBounds_toArray, List.set_cons_succ, List.set_cons_zero]
                refine wpAnyH_ready (rs := [0, 4]) (by kernel_rfl) (by simp) ?_
                refine AllReadyH.cons rfl (fun K hK => ?_) (AllReadyH.cons rfl (fun K hK => ?_) (AllReadyH.nil))
                · rw [if_pos (by rfl)]
                  refine wp_load_whole 83 _ rfl y0 rfl Try.underlying83 rfl sizeSg ?_
                  refine hK.out _ _ hHeld (fun hHeld => ?_)
                  clear hK K 
                  try simp only [List.getElem_toArray, List.getElem_cons_succ, List.getElem_cons_zero, Act.put, List.setIfInBounds_toArray, List.set_cons_succ, List.set_cons_zero]
                  refine wpAnyH_ready (rs := [4]) (by kernel_rfl) (by simp) ?_
                  refine AllReadyH.cons rfl (fun K hK => ?_) (AllReadyH.nil)
                  go_simp
                  go_wp2_with (refine (pTg _).mono ?_; rintro r u8 ⟨rfl, hb⟩)
                  replace y0 := y0.below hb
                  replace a2 := a2.below hb
                  replace hB := hB.trans (hb.mono hB.size)
                  refine hK.out _ _ (hHeld.below hb) (fun hHeld => ?_)
                  clear hK K hb
                  refine wpAnyH_ready (rs := [5]) (by kernel_rfl) (by simp) ?_
                  refine AllReadyH.cons rfl (fun K hK => ?_) (AllReadyH.nil)
                  go_simp
                  go_wp2_with (refine (pK _ hB (fun x hx => by simp at hx; have := y0.lt; have := a2.lt; omega)).mono ?_; rintro r u9 ⟨v8, rfl, hR, hb⟩)
                  have hyl := y0.lt
                  have hal := a2.lt
                  replace y0 := y0.below hb
                  replace a2 := a2.below hb
                  replace hB := hB.trans (hb.mono hB.size)
                  obtain ⟨c9, ta, tk, hcn, hcs9, rfl, hL, hG, hO2, hO6⟩ := hR.open
                  clear hR
                  have hgin := hG.in
                  refine hK.out _ _ (hHeld.below hb) (fun hHeld => ?_)
                  clear hK K hb
                  refine wpAnyH_ready (rs := [6]) (by kernel_rfl) (by simp) ?_
                  refine AllReadyH.cons rfl (fun K hK => ?_) (AllReadyH.nil)
                  rw [if_pos (by rfl)]
                  refine wp_store_all 83 _ _ rfl (cells := unc c9 (.slice ta S8.t.length tk)) y0 rfl rfl sizeSg (by rw [unc_size, unc_size]) (unc_one _ _ _ _) ?_
                  intro u10 hn9 hk9
                  replace y0 := hn9
                  replace a2 := a2.kp1 hk9 (by omega)
                  replace hL := hL.off hk9 (fun x hx => by simp at hx; subst hx; exact hO6 _ (by simp))
                  replace hG := hG.away hk9 (fun hm => by have := hgin _ hm; omega)
                  replace hB := hB.trans (hk9.below1 (by omega) hB.size)
                  refine hK.out _ _ (hHeld.kp1 hk9 (by omega)) (fun hHeld => ?_)
                  clear hK K hk9 hn9
                  try simp only [List.getElem_toArray, List.getElem_cons_succ, List.getElem_cons_zero, Act.put, List.setIfInBounds_toArray, List.set_cons_succ, List.set_cons_zero]
                  refine wpAnyH_done (by kernel_rfl) ?_ _
                  go_wp2_with fail
                  go_meet
                  exact ⟨rfl, ⟨_, y0, hdone c9 ta tk _ hcn hcs9 hL (hG.low (by omega)) hO2 hO6⟩, a2, hB⟩
                · go_simp
                  go_wp2_with (refine (pTg _).mono ?_; rintro r u11 ⟨rfl, hb⟩)
                  replace y0 := y0.below hb
                  replace a2 := a2.below hb
                  replace hB := hB.trans (hb.mono hB.size)
                  refine hK.out _ _ (hHeld.below hb) (fun hHeld => ?_)
                  clear hK K hb
                  refine wpAnyH_ready (rs := [0]) (by kernel_rfl) (by simp) ?_
                  refine AllReadyH.cons rfl (fun K hK => ?_) (AllReadyH.nil)
                  rw [if_pos (by rfl)]
                  refine wp_load_whole 83 _ rfl y0 rfl Try.underlying83 rfl sizeSg ?_
                  refine hK.out _ _ hHeld (fun hHeld => ?_)
                  clear hK K 
                  try simp only [List.getElem_toArray, List.getElem_cons_succ, List.getElem_cons_zero, Act.put, List.setIfInBounds_toArray, List.set_cons_succ, List.set_cons_zero]
                  refine wpAnyH_ready (rs := [5]) (by kernel_rfl) (by simp) ?_
                  refine AllReadyH.cons rfl (fun K hK => ?_) (AllReadyH.nil)
                  go_simp
                  go_wp2_with (refine (pK _ hB (fun x hx => by simp at hx; have := y0.lt; have := a2.lt; omega)).mono ?_; rintro r u13 ⟨v8, rfl, hR, hb⟩)
                  have hyl := y0.lt
                  have hal := a2.lt
                  replace y0 := y0.below hb
                  replace a2 := a2.below hb
                  replace hB := hB.trans (hb.mono hB.size)
                  obtain ⟨c9, ta, tk, hcn, hcs9, rfl, hL, hG, hO2, hO6⟩ := hR.open
                  clear hR
                  have hgin := hG.in
                  refine hK.out _ _ (hHeld.below hb) (fun hHeld => ?_)
                  clear hK K hb
                  refine wpAnyH_ready (rs := [6]) (by kernel_rfl) (by simp) ?_
                  refine AllReadyH.cons rfl (fun K hK => ?_) (AllReadyH.nil)
                  rw [if_pos (by rfl)]
                  refine wp_store_all 83 _ _ rfl (cells := unc c9 (.slice ta S8.t.length tk)) y0 rfl rfl sizeSg (by rw [unc_size, unc_size]) (unc_one _ _ _ _) ?_
                  intro u14 hn9 hk9
                  replace y0 := hn9
                  replace a2 := a2.kp1 hk9 (by omega)
                  replace hL := hL.off hk9 (fun x hx => by simp at hx; subst hx; exact hO6 _ (by simp))
                  replace hG := hG.away hk9 (fun hm => by have := hgin _ hm; omega)
                  replace hB := hB.trans (hk9.below1 (by omega) hB.size)
                  refine hK.out _ _ (hHeld.kp1 hk9 (by omega)) (fun hHeld => ?_)
                  clear hK K hk9 hn9
                  try simp only [List.getElem_toArray, List.getElem_cons_succ, List.getElem_cons_zero, Act.put, List.setIfInBounds_toArray, List.set_cons_succ, List.set_cons_zero]
                  refine wpAnyH_done (by kernel_rfl) ?_ _
                  go_wp2_with fail
                  go_meet
                  exact ⟨rfl, ⟨_, y0, hdone c9 ta tk _ hcn hcs9 hL (hG.low (by omega)) hO2 hO6⟩, a2, hB⟩
    case rest =>
    clear y0 a0 a1 a2 hB HS' HTook HMost HMc pAll pTg pK kC9 kt8
    obtain ⟨rfl, ⟨C, y0, hR⟩, a2, hB⟩ := hcut
    rename World => w9
    obtain ⟨c9, t9, k9', hcn9, hcs9, hCe, hL9, hG9, hO9, hO69⟩ := hR.open
    have hCe' : C = unc c9 (.slice t9 S8.t.length k9') := by injection hCe
    subst hCe'
    clear hCe hcn9 hcs9 hL9 hG9 hO9 hO69
    go_wp2_with (refine load_blk rfl 83 _ rfl y0 rfl Try.underlying83 rfl sizeSg ?_)
    have hyl := y0.lt
    have hal := a2.lt
    refine (pG _ _ _ _ (Nat.succ_le_of_lt hyl) hR).mono ?_
    rintro r w10 ⟨v10, rfl, hR10, hb⟩
    clear pG hR
    obtain ⟨g, ta, tk, hgn, hgs, rfl, hL, hG, hO2, hO6⟩ := hR10.open
    clear hR10
    have hoy := hO6 y (by simp)
    have hoq := hO6 (q + 1 + 1) (by simp)
    have hgin := hG.in
    have hgy : y ∉ blkOf ta := fun hm => by have := hgin _ hm; omega
    have hgq : q + 1 + 1 ∉ blkOf ta := fun hm => by have := hgin _ hm; omega
    replace y0 := y0.und hb (by omega)
    replace a2 := a2.und hb (by omega)
    replace hB := hB.trans (hb.mono (by omega))
    clear hb hO6
    obtain ⟨n1, hn1⟩ : ∃ n, S9.t.length = n := ⟨_, rfl⟩
    rw [hn1]
    have Hn1 : Hid (S9.t.length = n1) := hn1
    clear hn1
    go_upto_region 23 with (go_big_may; (refine store_part rfl 83 _ _ rfl (off := 0) (cells := unc g (.slice ta n1 tk)) y0 rfl rfl sizeSg (Nat.le_refl _) (unc_one _ _ _ _) ?_; intro w11 b11 k11; rw [unc_all] at b11))
    try simp only [Act.put]
    replace a2 := a2.kp1 k11 (by omega)
    replace hB := hB.trans (k11.below1 (by omega) hB.size)
    replace hL := hL.off k11 (fun p hp => by simp at hp; subst hp; exact hoy)
    replace hG := hG.away k11 hgy
    clear k11 y0
    have y0 := b11
    clear b11
    have HFin : Hid (∀ u, Li Kt.vals 0 g.ka S9.L u → Lg Hp.vals 50 66 (y + 1) ta tk S9.t u → Did (recvS e L p) (heedB e p) 0 (.returned (.tuple #[.agg (coc g), .bool true, .slice ta n1 tk])) u) := fun u h1 h2 => by
      rw [HY.out.2, HY.out.1]
      refine Did.sim (s := ⟨g, S9.L, S9.t⟩) ⟨g.ka, g.kc, ta, tk, ?_, h1, h2.li.mono (Nat.zero_le _)⟩ ⟨hgs, rfl, rfl⟩
      show _ = Ending.returned (.tuple #[.agg (coc (g.kp g.ka S9.L.length g.kc)), .bool true, .slice ta S9.t.length tk])
      rw [kp_self g S9.L.length hgn, Hn1.out]
    clear HY hgs
    replace a2 := a2.drew
    replace hL := hL.below (Below.refl _ _).drew
    replace hG := hG.below (Below.refl _ _).drew
    replace hB := hB.drew
    refine wp_region_held_drew (S := fun w' => Blk y (unc g (.slice ta n1 tk)) 83 w') (by kernel_rfl) y0.drew (fun hHeld => ?_)
    refine tkH 0 (v := ?v14) rfl (by kernel_rfl) (fun _ _ _ h => h) (Or.inl ⟨by rfl, ?hy14⟩) hHeld ?rest14
    case hy14 => (intro w hSw; clear hSw; go_simp; try with_reducible rfl)
    try simp only [List.getElem_toArray, List.getElem_cons_succ, List.getElem_cons_zero, Act.put, List.setIfInBounds_toArray, List.set_cons_succ, List.set_cons_zero]
    refine' tkH 1 (v := _) rfl (by kernel_rfl) (fun _ _ _ h => h) (yieldsIf_load_mid (by rfl) _ _ rfl y 0 rfl (col g) _ ?hS15 Try.underlying35 rfl sizeCo) hHeld ?rest15
    case hS15 => exact fun w h => h.range 0 _ (unc_core _ _)
    try simp only [List.getElem_toArray, List.getElem_cons_succ, List.getElem_cons_zero, Act.put, List.setIfInBounds_toArray, List.set_cons_succ, List.set_cons_zero]
    refine tkH 2 (v := ?v16) rfl (by kernel_rfl) (fun _ _ _ h => h) (Or.inl ⟨by rfl, ?hy16⟩) hHeld ?rest16
    case hy16 => (intro w hSw; clear hSw; go_simp; try with_reducible rfl)
    try simp only [List.getElem_toArray, List.getElem_cons_succ, List.getElem_cons_zero, Act.put, List.setIfInBounds_toArray, List.set_cons_succ, List.set_cons_zero]
    refine tkH 3 (v := ?v17) rfl (by kernel_rfl) (fun _ _ _ h => h) (Or.inl ⟨by rfl, ?hy17⟩) hHeld ?rest17
    case hy17 => (intro w hSw; have hc : w.cell? ⟨y, 189, none⟩ = some ((.slice ta n1 tk)) := (hSw.cell 189 _ rfl); clear hSw; go_simp; try with_reducible rfl)
    try simp only [List.getElem_toArray, List.getElem_cons_succ, List.getElem_cons_zero, Act.put, List.setIfInBounds_toArray, List.set_cons_succ, List.set_cons_zero]
    refine wpAnyH_ready (rs := [4]) (by kernel_rfl) (by simp) ?_
    refine AllReadyH.cons rfl (fun K hK => ?_) (AllReadyH.nil)
    rw [if_pos (by rfl)]
    refine wp_store_all 35 _ _ rfl (cells := coc g) a2 rfl rfl sizeCo rfl (coc_one _) ?_
    intro u1 hn9 hk9
    replace a2 := hn9
    replace hL := hL.off hk9 (fun p hp => by simp at hp; subst hp; exact hoq)
    replace hG := hG.away hk9 hgq
    replace hB := hB.trans (hk9.below1 (by omega) hB.size)
    refine hK.out _ _ (hHeld.kp1 hk9 (by omega)) (fun hHeld => ?_)
    clear hK K hk9 hn9
    try simp only [List.getElem_toArray, List.getElem_cons_succ, List.getElem_cons_zero, Act.put, List.setIfInBounds_toArray, List.set_cons_succ, List.set_cons_zero]
    refine tkH 5 (v := ?v18) rfl (by kernel_rfl) (fun _ _ _ h => h) (Or.inl ⟨by rfl, ?hy18⟩) hHeld ?rest18
    case hy18 => (intro w hSw; clear hSw; go_simp; try with_reducible rfl)
    try simp only [List.getElem_toArray, List.getElem_cons_succ, List.getElem_cons_zero, Act.put, List.setIfInBounds_toArray, List.set_cons_succ, List.set_cons_zero]
    refine tkH 6 (v := ?v19) rfl (by kernel_rfl) (fun _ _ _ h => h) (Or.inl ⟨by rfl, ?hy19⟩) hHeld ?rest19
    case hy19 => (intro w hSw; clear hSw; go_simp; try with_reducible rfl)
    try simp only [List.getElem_toArray, List.getElem_cons_succ, List.getElem_cons_zero, Act.put, List.setIfInBounds_toArray, List.set_cons_succ, List.set_cons_zero]
    refine wpAnyH_done (by kernel_rfl) ?_ _
    go_wp2_with fail
    exact bodyPost_ret (v := .tuple #[.agg (coc g), .bool true, (.slice ta n1 tk)]) (ret_ctt rfl rfl a2 Try.underlying35 rfl sizeCo rfl rfl) rfl ⟨HFin.out _ hL hG, by first | exact hB | (rw [← hq]; exact hB)⟩

end Go.Proofs.Ythgmecgknhphmaa
