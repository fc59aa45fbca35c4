/-
  What a play delivers.
  The frames fit.
-/
import Derived.Test.YtmnpbjaofemelaaQuG
import Derived.Test.YtmnpbjaofemelaaQuH
import Derived.Test.YtmnpbjaofemelaaHm
namespace Go.Proofs.Ytmnpbjaofemelaa
set_option maxRecDepth 10000
set_option linter.unusedSimpArgs false
open Go.RowKit Go.Sort
set_option linter.unusedVariables false

theorem pyc_get (m : Nat → Nat) (v : Value) (d : Nat) (h : d < 8) : (pyc m v)[d]? = some (.int .u32 (m d : Int)) := by
  have : d = 0 ∨ d = 1 ∨ d = 2 ∨ d = 3 ∨ d = 4 ∨ d = 5 ∨ d = 6 ∨ d = 7 := by omega
  rcases this with rfl | rfl | rfl | rfl | rfl | rfl | rfl | rfl <;> rfl

set_option maxHeartbeats 16000000 in
theorem deliv_ok (m : Nat → Nat) (L : List Fm) (la : Option Addr) (lc : Nat) (lm : L.length ≤ 9223372036854775807) (w : World) (hls : ∀ x ∈ L, x.ok w) (hS : Li Fm.vals 0 la L w) : Calls Try.prog 18 #[.agg (pyc m (.slice la L.length lc))] w fun e w' => ∃ s, RunF m L (min L.length 60) s ∧ (∃ a c, e = .returned (.slice a (s.out ++ s.q).length c) ∧ (s.out ++ s.q).length ≤ c ∧ Li Wt.vals 0 a (s.out ++ s.q) w') ∧ Below w.heap.size w w' := by
  obtain ⟨iI, zI, hI, hz0, hsz, hby, hzs⟩ := infoWt
  obtain ⟨n, hn⟩ : ∃ n, Hid (L.length = n) := ⟨_, rfl⟩
  have HF : Hid (∀ x ∈ L, x.ok w) := hls
  have HS : Hid (Li Fm.vals 0 la L w) := hS
  clear hls hS
  rw [hn.out] at lm
  have bp := blk_new w (pyc m (.slice la L.length lc)) 50
  have hB := below_box w (.cells (pyc m (.slice la L.length lc)) 50)
  rw [hn.out] at bp hB ⊢
  go_enter Try.func18, Try.ntmps18
  go_upto_region 1 with fail
  try simp only [Act.put]
  have hsz1 : (w.alloc (.cells (pyc m (.slice la n lc)) 50)).heap.size = w.heap.size + 1 := by simp
  generalize w.alloc (Obj.cells (pyc m (.slice la n lc)) 50) = W at bp hB hsz1 ⊢
  obtain ⟨b0, b1, hb⟩ := two_blk (T0 := 47) (T1 := 47) (C0 := #[]) (C1 := #[]) (w := W) rfl
  have hsz2 : ((W.alloc (.cells #[] 47)).alloc (.cells #[] 47)).heap.size = W.heap.size + 2 := by simp
  rw [hsz1] at b0 b1 hsz2
  go_upto_region 2 with (go_big_may; refine box_Wt0 rfl rfl ?_)
  try simp only [Act.put]
  generalize (W.alloc (Obj.cells #[] 47)).alloc (Obj.cells #[] 47) = W1 at b0 b1 hb hsz2 ⊢
  have hG : Lg Wt.vals 9 47 (w.heap.size + 1) (some ⟨w.heap.size + 1, 0, none⟩) 0 [] W1 := Lg.of (Ow.empty b0) (Nat.le_refl _)
  have hT : Lg Wt.vals 9 47 (w.heap.size + 1) (some ⟨w.heap.size + 1 + 1, 0, none⟩) 0 [] W1 := Lg.of (Ow.empty b1) (Nat.le_succ _)
  replace bp := bp.below hb
  replace hB := hB.trans (hb.mono hB.size)
  clear hb b0 b1
  clear hsz1
  have bc := blk_new W1 (mbc noMb) 28
  have hb := below_box W1 (.cells (mbc noMb) 28)
  have hsz3 : (W1.alloc (.cells (mbc noMb) 28)).heap.size = W1.heap.size + 1 := by simp
  go_upto_region 3 with (go_big_may; first | refine build_zero builtCt rfl rfl ?_ | refine alloc_zero zeroCt rfl rfl ?_ | refine store_new rfl 28 _ _ rfl (cells := mbc noMb) rfl rfl sizeCt rfl (mbc_one _) ?_)
  try simp only [Act.put]
  replace hG := hG.below hb
  replace hT := hT.below hb
  generalize W1.alloc (Obj.cells (mbc noMb) 28) = W2 at bc hb hsz3 hG hT ⊢
  replace bp := bp.below hb
  replace hB := hB.trans (hb.mono hB.size)
  clear hb
  have hW : W1.heap.size < W2.heap.size := by omega
  have hP1 : w.heap.size + 1 + 2 ≤ W1.heap.size := by omega
  generalize W1.heap.size = P at bc hP1 hW ⊢
  have hPw : w.heap.size ≤ P := by omega
  have hPn : w.heap.size ≠ P := by omega
  clear hsz2 hsz3
  go_wp2_with fail
  go_loopw [3, 4, 6] (fun qv ov iv wr => ∃ (i p po : Nat) (c : Nat → Nat) (A out q : List Wt) (qa : Option Addr) (qc9 : Nat) (oa : Option Addr) (oc : Nat), i ≤ n ∧ i ≤ 60 ∧ iv = .int .i64 i ∧ qv = .slice qa p qc9 ∧ ov = .slice oa po oc ∧ Hid (q.length = p ∧ out.length = po) ∧ RunF m L i ⟨c, A, out, q⟩ ∧ Hid (P ∉ blkOf oa ∧ P ∉ blkOf qa) ∧ Lg Wt.vals 9 47 (w.heap.size + 1) qa qc9 q wr ∧ Lg Wt.vals 9 47 (w.heap.size + 1) oa oc out wr ∧ Hid (∀ b ∈ blkOf oa, b ∉ blkOf qa) ∧ Blk P (mbc c) 28 wr ∧ Blk w.heap.size (pyc m (.slice la n lc)) 50 wr ∧ Below w.heap.size w wr ∧ P < wr.heap.size) (fun _ _ iv _ => 60 - (intOf iv).toNat)
  case atStart => exact ⟨0, 0, 0, fun _ => 0, [], [], [], _, 0, _, 0, by omega, by omega, rfl, rfl, rfl, ⟨rfl, rfl⟩, rfl, ⟨by simp [blkOf]; omega, by simp [blkOf]; omega⟩, hG, hT, by simp [Hid, blkOf], bc, bp, hB, hW⟩
  case round =>
    clear hG hT bc bp hB hW hP1
    obtain ⟨i, p, po, c, A, out, q, qa, qc9, oa, oc, hin, hi60, rfl, rfl, rfl, HL, HR, HP, hQ, hG, HD, bc, bp, hB, hW⟩ := hrel
    rename World => wr
    have i1 : (0 : Int) ≤ (i : Int) := by omega
    have c8 : wr.cell? ⟨w.heap.size, 8, none⟩ = some (.slice la n lc) := bp.cell 8 _ rfl
    by_cases hgo : i < n ∧ i < 60
    · obtain ⟨hin2, hi2⟩ := hgo
      have i0 : (i : Int) < (n : Int) := by omega
      have i60 : (i : Int) < 60 := by omega
      obtain ⟨x, hx⟩ : ∃ k, L[i]? = some k := ⟨_, List.getElem?_eq_getElem (by rw [hn.out]; exact hin2)⟩
      have hxo := HF.out x (List.mem_of_getElem? hx)
      have hok := run_ok hi60 HR
      have HX : Hid (L[i]? = some x) := hx
      obtain ⟨ne, he⟩ : ∃ k, Hid (x.L.length = k) := ⟨_, rfl⟩
      obtain ⟨b, o, rfl, _, hbl, hr⟩ := (HS.out.below hB).at Fm.vals_length i x hx
      have bf := blk_new wr x.arr 26
      have hb := below_box wr (.cells x.arr 26)
      clear hx
      go_upto_region 7 with (go_big_may; first | refine load_range rfl 26 _ rfl x.vals hr rfl Try.underlying26 rfl sizeFm ?_ | refine alloc_zero zeroFm rfl rfl ?_ | refine store_new rfl 26 _ _ rfl (cells := x.arr) rfl rfl sizeFm rfl x.arr_one ?_)
      try simp only [Act.put]
      generalize hV9 : wr.alloc (Obj.cells x.arr 26) = V at bf hb ⊢
      have hzf : P < wr.heap.size := hW
      clear c8 hr hbl hV9
      replace hQ := hQ.below hb
      replace hG := hG.below hb
      replace bc := bc.below hb
      replace bp := bp.below hb
      replace hB := hB.trans (hb.mono hB.size)
      replace hW := Nat.le_trans hW hb.size
      clear hb
      generalize wr.heap.size = zf at bf hzf ⊢
      have q0 : ∀ d' os, (grow (redrawn V d') os).cell? ⟨zf, 0, none⟩ = some (.int .i64 x.f) := cell_regrown (bf.cell 0 _ rfl)
      have q1 : ∀ d' os, (grow (redrawn V d') os).cell? ⟨zf, 1, none⟩ = some (.int .u32 (x.r : Int)) := cell_regrown (bf.cell 1 _ rfl)
      by_cases h0 : x.f < 0
      · have d0 : decide (x.f < 0) = true := decide_eq_true h0
        have HN : Hid (RunF m L (i + 1) ⟨c, A, out, q⟩) := run_no HR HX.out (fun h => by have := h.1; omega)
        have qm := q0
        have qc := q0
        clear h0 hxo hok
        go_upto_region 7 with fail
        try simp only [Act.put, List.setIfInBounds_toArray, List.set_cons_zero, List.set_cons_succ]
        refine wp_region_quiet_below (by kernel_rfl) (by kernel_rfl) ?_
        repeat (first
          | go_big_quiet_step (fail))
        refine wpQuiet_nil ?_
        intro _ hw'
        obtain ⟨⟨dq, osq⟩, hw''⟩ := hw'
        have hb := below_regrown V dq osq
        subst hw''
        generalize grow (redrawn V dq) osq = V2 at hb ⊢
        clear q0 q1 qm qc
        replace hQ := hQ.below hb
        replace hG := hG.below hb
        replace bc := bc.below hb
        replace bp := bp.below hb
        replace hB := hB.trans (hb.mono hB.size)
        replace hW := Nat.le_trans hW hb.size
        clear hb
        go_wp2_with fail
        exact ⟨⟨i + 1, p, po, c, A, out, q, qa, qc9, oa, oc, by omega, by omega, by go_num, rfl, rfl, HL, HN.out, HP, hQ, hG, HD, bc, bp, hB, hW⟩, by simp [intOf]; omega⟩
      · by_cases h1 : 7 < x.f
        · have d0 : decide (x.f < 0) = false := decide_eq_false h0
          have d1 : decide (7 < x.f) = true := decide_eq_true h1
          have HN : Hid (RunF m L (i + 1) ⟨c, A, out, q⟩) := run_no HR HX.out (fun h => by have := h.2.1; omega)
          have qm := q0
          have qc := q0
          clear h0 h1 hxo hok
          go_upto_region 7 with fail
          try simp only [Act.put, List.setIfInBounds_toArray, List.set_cons_zero, List.set_cons_succ]
          refine wp_region_quiet_below (by kernel_rfl) (by kernel_rfl) ?_
          repeat (first
            | go_big_quiet_step (fail))
          refine wpQuiet_nil ?_
          intro _ hw'
          obtain ⟨⟨dq, osq⟩, hw''⟩ := hw'
          have hb := below_regrown V dq osq
          subst hw''
          generalize grow (redrawn V dq) osq = V2 at hb ⊢
          clear q0 q1 qm qc
          replace hQ := hQ.below hb
          replace hG := hG.below hb
          replace bc := bc.below hb
          replace bp := bp.below hb
          replace hB := hB.trans (hb.mono hB.size)
          replace hW := Nat.le_trans hW hb.size
          clear hb
          go_wp2_with fail
          exact ⟨⟨i + 1, p, po, c, A, out, q, qa, qc9, oa, oc, by omega, by omega, by go_num, rfl, rfl, HL, HN.out, HP, hQ, hG, HD, bc, bp, hB, hW⟩, by simp [intOf]; omega⟩
        · obtain ⟨d, hd⟩ : ∃ d : Nat, x.f = (d : Int) := ⟨x.f.toNat, by omega⟩
          have hd8 : d < 8 := by omega
          have HDD : Hid (x.f = (d : Int)) := hd
          have a7 : bits BinOp.and IntKind.i64 (d : Int) 7 = (d : Int) := by
            have : d = 0 ∨ d = 1 ∨ d = 2 ∨ d = 3 ∨ d = 4 ∨ d = 5 ∨ d = 6 ∨ d = 7 := by omega
            rcases this with rfl | rfl | rfl | rfl | rfl | rfl | rfl | rfl <;> rfl
          have qm : ∀ d' os, (grow (redrawn V d') os).cell? ⟨w.heap.size, d, none⟩ = some (.int .u32 (m d : Int)) := cell_regrown (bp.cell d _ (pyc_get m _ d hd8))
          have qc : ∀ d' os, (grow (redrawn V d') os).cell? ⟨P, d, none⟩ = some (.int .u32 (c d : Int)) := cell_regrown (bc.cell d _ (mbc_get c d hd8))
          rw [hd] at q0
          have e0 : decide ((d : Int) < 0) = false := decide_eq_false (by omega)
          have e1 : decide ((7 : Int) < (d : Int)) = false := decide_eq_false (by omega)
          have e2 : (d : Int) < 8 := by omega
          have e3 : (0 : Int) ≤ (d : Int) := by omega
          have hcl := hok.cl d
          have hcl2 : c d ≤ 60 := by
            have : c d ≤ i := hcl
            omega
          clear h0 h1 hd
          by_cases h2 : m d = 0
          · have HN : Hid (RunF m L (i + 1) ⟨c, A, out, q⟩) := run_no HR HX.out (fun h => by have h3 := h.2.2.1; rw [HDD.out] at h3; exact h3 h2)
            rw [h2] at qm
            clear h2 hxo hok hcl hcl2
            go_upto_region 7 with fail
            try simp only [Act.put, List.setIfInBounds_toArray, List.set_cons_zero, List.set_cons_succ]
            refine wp_region_quiet_below (by kernel_rfl) (by kernel_rfl) ?_
            repeat (first
              | go_big_quiet_step (fail))
            refine wpQuiet_nil ?_
            intro _ hw'
            obtain ⟨⟨dq, osq⟩, hw''⟩ := hw'
            have hb := below_regrown V dq osq
            subst hw''
            generalize grow (redrawn V dq) osq = V2 at hb ⊢
            clear q0 q1 qm qc
            replace hQ := hQ.below hb
            replace hG := hG.below hb
            replace bc := bc.below hb
            replace bp := bp.below hb
            replace hB := hB.trans (hb.mono hB.size)
            replace hW := Nat.le_trans hW hb.size
            clear hb
            go_wp2_with fail
            exact ⟨⟨i + 1, p, po, c, A, out, q, qa, qc9, oa, oc, by omega, by omega, by go_num, rfl, rfl, HL, HN.out, HP, hQ, hG, HD, bc, bp, hB, hW⟩, by simp [intOf]; omega⟩
          · have e4 : ((m d : Int) == 0) = false := by rw [beq_eq_false_iff_ne]; omega
            have e5 : (m d == 0) = false := by rw [beq_eq_false_iff_ne]; exact h2
            by_cases h3 : x.r = c d + 1
            · have hfr := hxo.hr
              rw [h3] at q1 hfr
              have HN : Hid (RunF m L (i + 1) (nxtF m ⟨c, A, out, q⟩ d (x.L.take 4))) := run_yes HR HX.out HDD.out hd8 h2 h3
              have HR3 : Hid (x.r = c d + 1) := h3
              clear h2 h3
              have hmn : (x.L.take 4).length = min ne 4 := by rw [List.length_take, he.out]; omega
              obtain ⟨k, hk⟩ : ∃ k, Hid (min ne 4 = k) := ⟨_, rfl⟩
              have hkm : (if (4 : Int) < (ne : Int) then (4 : Int) else (ne : Int)) = (k : Int) := by have := hk.out; split <;> omega
              rw [hk.out] at hmn
              have k4 : k ≤ 4 := by have := hk.out; omega
              have k0 : (0 : Int) ≤ (k : Int) := by omega
              have kc : (k : Int) ≤ (x.c : Int) := by have := hk.out; have := hxo.hl; have := he.out; omega
              have HEL : Hid (Li En.vals 0 x.a (x.L.take 4) w) := hxo.hS.take En.vals_length 4
              obtain ⟨QA, hQA⟩ : ∃ z, Hid (addQ (d : Int) (c d + 1) 0 (x.L.take 4) q = z) := ⟨_, rfl⟩
              obtain ⟨nA, hnA⟩ : ∃ z, Hid (QA.length = z) := ⟨_, rfl⟩
              obtain ⟨rr, hrr⟩ : ∃ z, Hid (c d + 1 = z) := ⟨_, rfl⟩
              have hlens := hok.lens
              have hql : q.length ≤ 240 := by have : out.length + q.length ≤ 4 * i := hlens; omega
              have hnA2 : nA ≤ 244 := by have := addQ_size (d : Int) (c d + 1) (x.L.take 4) 0 q; rw [hQA.out, hnA.out] at this; omega
              obtain ⟨RD, hRD⟩ : ∃ z, Hid (rdyQ (up8 c d) m true QA = z) := ⟨_, rfl⟩
              obtain ⟨RS, hRS⟩ : ∃ z, Hid (rstQ (up8 c d) m true QA = z) := ⟨_, rfl⟩
              obtain ⟨nR, hnR⟩ : ∃ z, Hid (RD.length = z) := ⟨_, rfl⟩
              obtain ⟨nT, hnT⟩ : ∃ z, Hid (RS.length = z) := ⟨_, rfl⟩
              have hnR2 : nR ≤ 244 := by have := (rdy_sub (up8 c d) m QA true).length_le; rw [hRD.out, hnR.out, hnA.out] at this; omega
              have hpo : po ≤ 240 := by have h1 : out.length + q.length ≤ 4 * i := hlens; have := HL.out.2; omega
              have hfq : ∀ x ∈ q, x.fit := hok.fq
              have hfA : ∀ x ∈ QA, x.fit := by rw [← hQA.out]; exact addQ_fit (d : Int) (c d + 1) (by omega) (by omega) (x.L.take 4) 0 q (by omega) hfq
              have hcap := hQ.cap
              have pA : ∀ v, Li Wt.vals 0 qa q v → Li En.vals 0 x.a (x.L.take 4) v → Calls Try.prog 12 #[.slice qa p qc9, .int .i64 (d : Int), .int .u32 (rr : Int), .slice x.a k x.c] v fun e w' => (∃ a z, e = .returned (.slice a nA z) ∧ Li Wt.vals 0 a QA w') ∧ Below v.heap.size v w' := fun v hv hv2 => by
                have h := add_ok q hfq (x.L.take 4) (d : Int) (c d + 1) (by omega) (by omega) qa x.a qc9 x.c (by omega) hcap v hv hv2
                rw [hQA.out, HL.out.1, hmn, hrr.out] at h
                refine h.mono ?_
                rintro e w' ⟨⟨a, z, h1, h2⟩, h4⟩
                rw [hnA.out] at h1
                exact ⟨⟨a, z, h1, h2.li.mono (Nat.zero_le _)⟩, h4⟩
              have pR : ∀ a z v, Li Wt.vals 0 a QA v → Calls Try.prog 9 #[.slice a nA z, .agg (mbc (up8 c d)), .agg (mbc m)] v fun e w' => (∃ a d1 a' d2, e = .returned (.tuple #[.slice a nR d1, .slice a' nT d2]) ∧ Lg Wt.vals 9 47 v.heap.size a d1 RD w' ∧ Lg Wt.vals 9 47 v.heap.size a' d2 RS w' ∧ ∀ i ∈ blkOf a, i ∉ blkOf a') ∧ Below v.heap.size v w' := fun a z v hv => by
                have h := ready_ok (up8 c d) m QA hfA a z (by rw [hnA.out]; omega) v hv
                rw [hRD.out, hRS.out, hnA.out] at h
                refine h.mono ?_
                rintro e w' ⟨⟨a, d1, a', d2, h1, h2, h3, h5⟩, h4⟩
                rw [hnR.out, hnT.out] at h1
                exact ⟨⟨a, d1, a', d2, h1, h2, h3, h5⟩, h4⟩
              have HN2 : Hid (RunF m L (i + 1) ⟨up8 c d, addQ (d : Int) (c d + 1) 0 (x.L.take 4) A, out ++ RD, RS⟩) := by
                have h9 := HN.out
                unfold nxtF at h9
                simp only at h9
                rw [hQA.out, hRD.out, hRS.out] at h9
                exact h9
              clear hfq hfA hcap
              clear HN hlens hql hmn hxo hok hcl
              go_upto_region 7 with fail
              try simp only [Act.put, List.setIfInBounds_toArray, List.set_cons_zero, List.set_cons_succ]
              refine wp_region_quiet_below (by kernel_rfl) (by kernel_rfl) ?_
              repeat (first
                | go_big_quiet_step (fail))
              refine wpQuiet_nil ?_
              intro _ hw'
              obtain ⟨⟨dq, osq⟩, hw''⟩ := hw'
              have hb := below_regrown V dq osq
              subst hw''
              generalize grow (redrawn V dq) osq = V2 at hb ⊢
              clear q0 q1 qm qc
              replace bf := bf.below hb
              replace hQ := hQ.below hb
              replace hG := hG.below hb
              replace bc := bc.below hb
              replace bp := bp.below hb
              replace hB := hB.trans (hb.mono hB.size)
              replace hW := Nat.le_trans hW hb.size
              clear hb
              have f0 : V2.cell? ⟨zf, 0, none⟩ = some (.int .i64 (d : Int)) := (bf.cell 0 (.int .i64 x.f) rfl).trans (by rw [HDD.out])
              have g0 : V2.cell? ⟨P, d, none⟩ = some (.int .u32 (c d : Int)) := bc.cell d _ (mbc_get c d hd8)
              go_upto_region 9 with (go_big_may; refine store_one rfl 23 _ _ rfl (off := d) (.int .u32 ((c d : Int) + 1)) bc rfl rfl rfl rfl sizeU32 (by rw [mbc_size]; omega) ?_; intro w5 bc5 k5)
              try simp only [Act.put]
              rw [show (.int .u32 ((c d : Int) + 1) : Value) = .int .u32 ((c d + 1 : Nat) : Int) from rfl, mbc_set _ d _ hd8] at bc5
              replace bc : Blk P (mbc (up8 c d)) 28 w5 := bc5
              clear bc5 f0 g0
              replace bp := bp.kp1 k5 hPn
              replace bf := bf.kp1 k5 (by omega)
              replace hQ := hQ.off k5 (fun i hi => by simp at hi; rw [hi]; exact HP.out.2)
              replace hG := hG.off k5 (fun i hi => by simp at hi; rw [hi]; exact HP.out.1)
              replace hB := hB.trans (k5.below1 hPw hB.size)
              replace hW := Nat.lt_of_lt_of_le hW k5.size
              clear k5
              have f2 : w5.cell? ⟨zf, 2, none⟩ = some (.slice x.a ne x.c) := (bf.cell 2 (.slice x.a x.L.length x.c) rfl).trans (by rw [he.out])
              go_upto_region 10 with fail
              try simp only [Act.put, List.setIfInBounds_toArray, List.set_cons_zero, List.set_cons_succ]
              clear f2 hkm
              have HG5 : Hid (∀ b ∈ blkOf oa, w.heap.size + 1 ≤ b ∧ b < w5.heap.size) := fun b hb => hG.in b hb
              refine wp_region_held_drew (S := fun v => Below w5.heap.size w5 v) (by kernel_rfl) ((Below.refl _ _).drew) (fun hHeld => ?_)
              refine tkQ 0 hHeld ?_
              try simp only [yy]
              refine tkQ 1 hHeld ?_
              try simp only [yy]
              refine tkH 2 (v := ?v3) rfl (by kernel_rfl) (fun _ _ _ h => h) (Or.inl ⟨by rfl, ?hy3⟩) hHeld ?rest3
              case hy3 => (intro w hSw; have hc := (bf.below hSw).cell 0 (Value.int .i64 x.f) rfl; rw [HDD.out] at hc; clear hSw; go_simp; try with_reducible rfl)
              try simp only [yy]
              refine tkQ 3 hHeld ?_
              try simp only [yy]
              refine tkH 4 (v := ?v5) rfl (by kernel_rfl) (fun _ _ _ h => h) (Or.inl ⟨by rfl, ?hy5⟩) hHeld ?rest5
              case hy5 => (intro w hSw; have hc := (bf.below hSw).cell 1 (Value.int .u32 (x.r : Int)) rfl; rw [HR3.out, hrr.out] at hc; clear hSw; go_simp; try with_reducible rfl)
              try simp only [yy]
              refine tkQ 5 hHeld ?_
              try simp only [yy]
              refine' tkH 7 (v := _) rfl (by kernel_rfl) (fun _ _ _ h => h) (yieldsIf_load_mid (by rfl) _ _ rfl P 0 rfl (row8 (up8 c d)) _ ?hS7 Try.underlying28 rfl sizeCt) hHeld ?rest7
              case hS7 => exact fun w h => ((bc.below h).range 0 (row8 (up8 c d)) (mbc_all _))
              try simp only [yy]
              refine tkQ 8 hHeld ?_
              try simp only [yy]
              refine' tkH 9 (v := _) rfl (by kernel_rfl) (fun _ _ _ h => h) (yieldsIf_load_mid (by rfl) _ _ rfl w.heap.size 0 rfl (row8 m) _ ?hS9 Try.underlying29 rfl sizeMb) hHeld ?rest9
              case hS9 => exact fun w h => ((bp.below h).range 0 (row8 m) (pyc_m m _))
              try simp only [yy]
              refine rd1 6 (fun K hK => ?_)
              go_simp
              go_wp2_with (refine (pA _ (hQ.li.mono (Nat.zero_le _) |>.below hHeld) (HEL.out.below (hB.trans (hHeld.mono hB.size)))).mono ?_; rintro r u1 ⟨⟨a1, d1, rfl, hA1⟩, hb⟩)
              refine hK.out _ _ (below_next hHeld hb) (fun hHeld => ?_)
              clear hK K hb
              refine rd1 10 (fun K hK => ?_)
              have hsv := hHeld.size
              go_simp
              go_wp2_with (refine (pR _ _ _ hA1).mono ?_; rintro r u2 ⟨⟨a2, d2, a3, d3, rfl, hR1, hT1, hD1⟩, hb⟩)
              replace hR1 := hR1.mono hsv
              replace hT1 := hT1.mono hsv
              refine hK.out _ _ (below_next hHeld hb) (fun hHeld => ?_)
              clear hK K hb hsv
              refine tkQ 11 hHeld ?_
              try simp only [yy]
              refine tkQ 12 hHeld ?_
              try simp only [yy]
              refine tkQ 13 hHeld ?_
              try simp only [yy]
              refine tkQ 14 hHeld ?_
              try simp only [yy]
              refine tkQ 15 hHeld ?_
              try simp only [yy]
              refine wpAnyH_done (by kernel_rfl) ?_ _
              replace hG := hG.below hHeld
              replace bc := bc.below hHeld
              replace bp := bp.below hHeld
              have hsv : w5.heap.size ≤ u2.heap.size := hHeld.size
              replace hB := hB.trans (hHeld.mono hB.size)
              have hgo9 : ∀ b ∈ blkOf oa, b < w5.heap.size := fun b hb => (HG5.out b hb).2
              clear hQ bf pA pR hHeld hA1
              have hRx := (hR1.li.mono (Nat.zero_le _)).src (P := Try.prog) Wt.vals_length Wt.vals_one Try.underlying22 d2
              rw [hnR.out] at hRx
              have hbw : w.heap.size + 1 ≤ u2.heap.size := by omega
              go_wp2_with (refine append_any Wt.vals_length rfl _ _ rfl Try.underlying22 hI hz0 hsz hby hzs hG hbw HL.out.2 rfl (M := RD) (m := nR) hnR.out (by rw [hnR.out]; exact hRx) rfl (by omega) (by simp only [maxLen]; omega) ?_; intro a8 c8 w8 hG8 hK8 hn8)
              have hoq : ∀ b ∈ blkOf oa, b ∉ blkOf a3 := fun b hb hb3 => by have := hgo9 b hb; have := (hT1.in b hb3).1; omega
              have hT8 := hT1.off hK8 hoq
              have hD8 : Hid (∀ b ∈ blkOf a8, b ∉ blkOf a3) := fun b hb hb3 => by
                rcases hn8 b hb with h | h
                · exact hoq b h hb3
                · have := (hT1.in b hb3).2; omega
              have hP8 : Hid (P ∉ blkOf a8 ∧ P ∉ blkOf a3) := ⟨fun hb => by
                rcases hn8 P hb with h | h
                · exact HP.out.1 h
                · omega, fun hb => by have := (hT1.in P hb).1; omega⟩
              have bc8 := bc.kp hK8 HP.out.1
              have bp8 := bp.kp hK8 (fun hb => by have := (HG5.out _ hb).1; omega)
              have hB8 := hB.trans (hK8.below (fun b hb => by have := (HG5.out b hb).1; omega) hB.size)
              have hW8 : P < w8.heap.size := by have := hK8.size; omega
              exact ⟨⟨i + 1, nT, po + nR, up8 c d, addQ (d : Int) (c d + 1) 0 (x.L.take 4) A, out ++ RD, RS, a3, d3, a8, c8, by omega, by omega, by go_num, rfl, rfl, ⟨hnT.out, by rw [List.length_append, HL.out.2, hnR.out]⟩, HN2.out, hP8, hT8.mono (by omega), hG8, hD8, bc8, bp8, hB8, hW8⟩, by simp [intOf]; omega⟩
            · have HN : Hid (RunF m L (i + 1) ⟨c, A, out, q⟩) := run_no HR HX.out (fun h => by have h4 := h.2.2.2; rw [HDD.out] at h4; exact h3 h4)
              have e6 : ((x.r : Int) != (c d : Int) + 1) = true := by rw [bne_iff_ne]; omega
              have e7 : (x.r != c d + 1) = true := by rw [bne_iff_ne]; exact h3
              clear h2 h3 hxo hok hcl
              go_upto_region 7 with fail
              try simp only [Act.put, List.setIfInBounds_toArray, List.set_cons_zero, List.set_cons_succ]
              refine wp_region_quiet_below (by kernel_rfl) (by kernel_rfl) ?_
              repeat (first
                | go_big_quiet_step (fail))
              refine wpQuiet_nil ?_
              intro _ hw'
              obtain ⟨⟨dq, osq⟩, hw''⟩ := hw'
              have hb := below_regrown V dq osq
              subst hw''
              generalize grow (redrawn V dq) osq = V2 at hb ⊢
              clear q0 q1 qm qc
              replace hQ := hQ.below hb
              replace hG := hG.below hb
              replace bc := bc.below hb
              replace bp := bp.below hb
              replace hB := hB.trans (hb.mono hB.size)
              replace hW := Nat.le_trans hW hb.size
              clear hb
              go_wp2_with fail
              exact ⟨⟨i + 1, p, po, c, A, out, q, qa, qc9, oa, oc, by omega, by omega, by go_num, rfl, rfl, HL, HN.out, HP, hQ, hG, HD, bc, bp, hB, hW⟩, by simp [intOf]; omega⟩
    · have hmin : min n 60 = i := by omega
      have hok := run_ok hi60 HR
      have hlens : out.length + q.length ≤ 4 * i := hok.lens
      have hq2 : q.length * 80 ≤ 140737488355328 := by omega
      have pF := flush_ok q qa qc9 hq2
      rw [HL.out.1] at pF
      have hbw : w.heap.size + 1 ≤ wr.heap.size := by omega
      have hpp : po + p ≤ 240 := by have := HL.out; omega
      have HO9 : Hid (∀ b ∈ blkOf oa, w.heap.size + 1 ≤ b ∧ b < wr.heap.size) := fun b hb => hG.in b hb
      have HM : Hid (min n 60 = i) := hmin
      clear hok hlens hq2 hmin
      have hends : (¬ (i : Int) < (n : Int)) ∨ ((i : Int) < (n : Int) ∧ ¬ (i : Int) < 60) := by omega
      clear hgo
      rcases hends with h1 | ⟨h1, h2⟩
      · go_wp2_with fail
        refine (pF _ (hQ.li.mono (Nat.zero_le _))).mono ?_
        rintro e5 w5 ⟨⟨a5, c5, rfl, hF5⟩, hb⟩
        replace hG := hG.below hb
        replace hB := hB.trans (hb.mono hB.size)
        have hbw5 := Nat.le_trans hbw hb.size
        have hFx := (hF5.li.mono (Nat.zero_le _)).src (P := Try.prog) Wt.vals_length Wt.vals_one Try.underlying22 c5
        rw [HL.out.1] at hFx ⊢
        clear hb pF hQ bc bp c8
        go_wp2_with (refine append_any Wt.vals_length rfl _ _ rfl Try.underlying22 hI hz0 hsz hby hzs hG hbw5 HL.out.2 rfl (M := q) (m := p) HL.out.1 (by rw [HL.out.1]; exact hFx) rfl (by omega) (by simp only [maxLen]; omega) ?_; intro a8 c8 w8 hG8 hK8 hn8)
        go_ret
        have hB8 := hB.trans (hK8.below (fun b hb => by have := (HO9.out b hb).1; omega) hB.size)
        exact ⟨⟨c, A, out, q⟩, by rw [HM.out]; exact HR, ⟨a8, c8, by show _ = Ending.returned (Value.slice a8 (out ++ q).length c8); rw [List.length_append, HL.out.1, HL.out.2]; rfl, hG8.cap, hG8.li.mono (Nat.zero_le _)⟩, hB8⟩
      · go_wp2_with fail
        refine (pF _ (hQ.li.mono (Nat.zero_le _))).mono ?_
        rintro e5 w5 ⟨⟨a5, c5, rfl, hF5⟩, hb⟩
        replace hG := hG.below hb
        replace hB := hB.trans (hb.mono hB.size)
        have hbw5 := Nat.le_trans hbw hb.size
        have hFx := (hF5.li.mono (Nat.zero_le _)).src (P := Try.prog) Wt.vals_length Wt.vals_one Try.underlying22 c5
        rw [HL.out.1] at hFx ⊢
        clear hb pF hQ bc bp c8
        go_wp2_with (refine append_any Wt.vals_length rfl _ _ rfl Try.underlying22 hI hz0 hsz hby hzs hG hbw5 HL.out.2 rfl (M := q) (m := p) HL.out.1 (by rw [HL.out.1]; exact hFx) rfl (by omega) (by simp only [maxLen]; omega) ?_; intro a8 c8 w8 hG8 hK8 hn8)
        go_ret
        have hB8 := hB.trans (hK8.below (fun b hb => by have := (HO9.out b hb).1; omega) hB.size)
        exact ⟨⟨c, A, out, q⟩, by rw [HM.out]; exact HR, ⟨a8, c8, by show _ = Ending.returned (Value.slice a8 (out ++ q).length c8); rw [List.length_append, HL.out.1, HL.out.2]; rfl, hG8.cap, hG8.li.mono (Nat.zero_le _)⟩, hB8⟩


end Go.Proofs.Ytmnpbjaofemelaa
