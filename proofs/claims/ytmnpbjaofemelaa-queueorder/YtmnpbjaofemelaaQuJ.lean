/-
  All that a play holds.
  The frames fit.
-/
import Derived.Test.YtmnpbjaofemelaaQuI
import Derived.Test.YtmnpbjaofemelaaQuF
namespace Go.Proofs.Ytmnpbjaofemelaa
set_option maxRecDepth 10000
set_option linter.unusedSimpArgs false
open Go.RowKit Go.Sort
set_option linter.unusedVariables false


set_option maxHeartbeats 16000000 in
theorem all_ok22 (m : Nat → Nat) (L : List Fm) (la : Option Addr) (lc : Nat) (lm : L.length ≤ 9223372036854775807) (w : World) (hls : ∀ x ∈ L, x.ok w) (hS : Li Fm.vals 0 la L w) : Calls Try.prog 19 #[.agg (pyc m (.slice la L.length lc))] w fun e w' => ∃ s, RunF m L (min L.length 60) s ∧ (∃ a c, e = .returned (.slice a s.A.length c) ∧ Li Wt.vals 0 a s.A w') ∧ Below w.heap.size w w' := by
  obtain ⟨iI, zI, hI, hz0, hsz, hby, hzs⟩ := infoWt
  obtain ⟨n, hn⟩ : ∃ n, Hid (L.length = n) := ⟨_, rfl⟩
  have HF : Hid (∀ x ∈ L, x.ok w) := hls
  have HS : Hid (Li Fm.vals 0 la L w) := hS
  clear hls hS
  rw [hn.out] at lm
  have bp := blk_new w (pyc m (.slice la L.length lc)) 50
  have hB := below_box w (.cells (pyc m (.slice la L.length lc)) 50)
  rw [hn.out] at bp hB ⊢
  go_enter Try.func19, Try.ntmps19
  go_upto_region 1 with fail
  try simp only [Act.put]
  have hsz1 : (w.alloc (.cells (pyc m (.slice la n lc)) 50)).heap.size = w.heap.size + 1 := by simp
  generalize w.alloc (Obj.cells (pyc m (.slice la n lc)) 50) = W at bp hB hsz1 ⊢
  have b0 := blk_new W #[] 47
  have hb := below_box W (.cells #[] 47)
  have hsz2 : (W.alloc (.cells #[] 47)).heap.size = W.heap.size + 1 := by simp
  rw [hsz1] at b0 hsz2
  go_upto_region 2 with (go_big_may; refine box_Wt0 rfl rfl ?_)
  try simp only [Act.put]
  generalize W.alloc (Obj.cells #[] 47) = W1 at b0 hb hsz2 ⊢
  have hG : ∀ Z v, Li Wt.vals Z (some ⟨w.heap.size + 1, 0, none⟩) [] v := fun _ _ => .inl rfl
  replace bp := bp.below hb
  replace hB := hB.trans (hb.mono hB.size)
  clear hb b0
  clear hsz1
  have bc := blk_new W1 (mbc noMb) 28
  have hb := below_box W1 (.cells (mbc noMb) 28)
  have hsz3 : (W1.alloc (.cells (mbc noMb) 28)).heap.size = W1.heap.size + 1 := by simp
  go_upto_region 3 with (go_big_may; first | refine build_zero builtCt rfl rfl ?_ | refine alloc_zero zeroCt rfl rfl ?_ | refine store_new rfl 28 _ _ rfl (cells := mbc noMb) rfl rfl sizeCt rfl (mbc_one _) ?_)
  try simp only [Act.put]


  generalize W1.alloc (Obj.cells (mbc noMb) 28) = W2 at bc hb hsz3 ⊢
  replace bp := bp.below hb
  replace hB := hB.trans (hb.mono hB.size)
  clear hb
  have hW : W1.heap.size < W2.heap.size := by omega
  have hP1 : w.heap.size + 1 + 1 ≤ W1.heap.size := by omega
  generalize W1.heap.size = P at bc hP1 hW ⊢
  have hPw : w.heap.size ≤ P := by omega
  have hPn : w.heap.size ≠ P := by omega
  clear hsz2 hsz3
  go_wp2_with fail
  go_loopw [3, 5] (fun qv iv wr => ∃ (i p : Nat) (c : Nat → Nat) (A out q : List Wt) (qa : Option Addr) (qc9 : Nat), i ≤ n ∧ i ≤ 60 ∧ iv = .int .i64 i ∧ qv = .slice qa p qc9 ∧ Hid (A.length = p) ∧ RunF m L i ⟨c, A, out, q⟩ ∧ Li Wt.vals (P + 1) qa A wr ∧ Blk P (mbc c) 28 wr ∧ Blk w.heap.size (pyc m (.slice la n lc)) 50 wr ∧ Below w.heap.size w wr ∧ P < wr.heap.size) (fun _ iv _ => 60 - (intOf iv).toNat)
  case atStart => exact ⟨0, 0, fun _ => 0, [], [], [], _, 0, by omega, by omega, rfl, rfl, rfl, rfl, hG _ _, bc, bp, hB, hW⟩
  case round =>
    clear hG bc bp hB hW hP1
    obtain ⟨i, p, c, A, out, q, qa, qc9, hin, hi60, rfl, rfl, HL, HR, hQ, bc, bp, hB, hW⟩ := hrel
    rename World => wr
    have i1 : (0 : Int) ≤ (i : Int) := by omega
    have c8 : wr.cell? ⟨w.heap.size, 8, none⟩ = some (.slice la n lc) := bp.cell 8 _ rfl
    by_cases hgo : i < n ∧ i < 60
    · obtain ⟨hin2, hi2⟩ := hgo
      have i0 : (i : Int) < (n : Int) := by omega
      have i60 : (i : Int) < 60 := by omega
      obtain ⟨x, hx⟩ : ∃ k, L[i]? = some k := ⟨_, List.getElem?_eq_getElem (by rw [hn.out]; exact hin2)⟩
      have hxo := HF.out x (List.mem_of_getElem? hx)
      have hok := run_ok hi60 HR
      have HX : Hid (L[i]? = some x) := hx
      obtain ⟨ne, he⟩ : ∃ k, Hid (x.L.length = k) := ⟨_, rfl⟩
      obtain ⟨b, o, rfl, _, hbl, hr⟩ := (HS.out.below hB).at Fm.vals_length i x hx
      have bf := blk_new wr x.arr 26
      have hb := below_box wr (.cells x.arr 26)
      clear hx
      go_upto_region 7 with (go_big_may; first | refine load_range rfl 26 _ rfl x.vals hr rfl Try.underlying26 rfl sizeFm ?_ | refine alloc_zero zeroFm rfl rfl ?_ | refine store_new rfl 26 _ _ rfl (cells := x.arr) rfl rfl sizeFm rfl x.arr_one ?_)
      try simp only [Act.put]
      generalize hV9 : wr.alloc (Obj.cells x.arr 26) = V at bf hb ⊢
      have hzf : P < wr.heap.size := hW
      clear c8 hr hbl hV9
      replace hQ := hQ.below hb
      replace bc := bc.below hb
      replace bp := bp.below hb
      replace hB := hB.trans (hb.mono hB.size)
      replace hW := Nat.le_trans hW hb.size
      clear hb
      generalize wr.heap.size = zf at bf hzf ⊢
      have q0 : ∀ d' os, (grow (redrawn V d') os).cell? ⟨zf, 0, none⟩ = some (.int .i64 x.f) := cell_regrown (bf.cell 0 _ rfl)
      have q1 : ∀ d' os, (grow (redrawn V d') os).cell? ⟨zf, 1, none⟩ = some (.int .u32 (x.r : Int)) := cell_regrown (bf.cell 1 _ rfl)
      by_cases h0 : x.f < 0
      · have d0 : decide (x.f < 0) = true := decide_eq_true h0
        have HN : Hid (RunF m L (i + 1) ⟨c, A, out, q⟩) := run_no HR HX.out (fun h => by have := h.1; omega)
        have qm := q0
        have qc := q0
        clear h0 hxo hok
        go_upto_region 7 with fail
        try simp only [Act.put, List.setIfInBounds_toArray, List.set_cons_zero, List.set_cons_succ]
        refine wp_region_quiet_below (by kernel_rfl) (by kernel_rfl) ?_
        repeat (first
          | go_big_quiet_step (fail))
        refine wpQuiet_nil ?_
        intro _ hw'
        obtain ⟨⟨dq, osq⟩, hw''⟩ := hw'
        have hb := below_regrown V dq osq
        subst hw''
        generalize grow (redrawn V dq) osq = V2 at hb ⊢
        clear q0 q1 qm qc
        replace hQ := hQ.below hb
        replace bc := bc.below hb
        replace bp := bp.below hb
        replace hB := hB.trans (hb.mono hB.size)
        replace hW := Nat.le_trans hW hb.size
        clear hb
        go_wp2_with fail
        exact ⟨⟨i + 1, p, c, A, out, q, qa, qc9, by omega, by omega, by go_num, rfl, HL, HN.out, hQ, bc, bp, hB, hW⟩, by simp [intOf]; omega⟩
      · by_cases h1 : 7 < x.f
        · have d0 : decide (x.f < 0) = false := decide_eq_false h0
          have d1 : decide (7 < x.f) = true := decide_eq_true h1
          have HN : Hid (RunF m L (i + 1) ⟨c, A, out, q⟩) := run_no HR HX.out (fun h => by have := h.2.1; omega)
          have qm := q0
          have qc := q0
          clear h0 h1 hxo hok
          go_upto_region 7 with fail
          try simp only [Act.put, List.setIfInBounds_toArray, List.set_cons_zero, List.set_cons_succ]
          refine wp_region_quiet_below (by kernel_rfl) (by kernel_rfl) ?_
          repeat (first
            | go_big_quiet_step (fail))
          refine wpQuiet_nil ?_
          intro _ hw'
          obtain ⟨⟨dq, osq⟩, hw''⟩ := hw'
          have hb := below_regrown V dq osq
          subst hw''
          generalize grow (redrawn V dq) osq = V2 at hb ⊢
          clear q0 q1 qm qc
          replace hQ := hQ.below hb
          replace bc := bc.below hb
          replace bp := bp.below hb
          replace hB := hB.trans (hb.mono hB.size)
          replace hW := Nat.le_trans hW hb.size
          clear hb
          go_wp2_with fail
          exact ⟨⟨i + 1, p, c, A, out, q, qa, qc9, by omega, by omega, by go_num, rfl, HL, HN.out, hQ, bc, bp, hB, hW⟩, by simp [intOf]; omega⟩
        · obtain ⟨d, hd⟩ : ∃ d : Nat, x.f = (d : Int) := ⟨x.f.toNat, by omega⟩
          have hd8 : d < 8 := by omega
          have HDD : Hid (x.f = (d : Int)) := hd
          have a7 : bits BinOp.and IntKind.i64 (d : Int) 7 = (d : Int) := by
            have : d = 0 ∨ d = 1 ∨ d = 2 ∨ d = 3 ∨ d = 4 ∨ d = 5 ∨ d = 6 ∨ d = 7 := by omega
            rcases this with rfl | rfl | rfl | rfl | rfl | rfl | rfl | rfl <;> rfl
          have qm : ∀ d' os, (grow (redrawn V d') os).cell? ⟨w.heap.size, d, none⟩ = some (.int .u32 (m d : Int)) := cell_regrown (bp.cell d _ (pyc_get m _ d hd8))
          have qc : ∀ d' os, (grow (redrawn V d') os).cell? ⟨P, d, none⟩ = some (.int .u32 (c d : Int)) := cell_regrown (bc.cell d _ (mbc_get c d hd8))
          rw [hd] at q0
          have e0 : decide ((d : Int) < 0) = false := decide_eq_false (by omega)
          have e1 : decide ((7 : Int) < (d : Int)) = false := decide_eq_false (by omega)
          have e2 : (d : Int) < 8 := by omega
          have e3 : (0 : Int) ≤ (d : Int) := by omega
          have hcl := hok.cl d
          have hcl2 : c d ≤ 60 := by
            have : c d ≤ i := hcl
            omega
          clear h0 h1 hd
          by_cases h2 : m d = 0
          · have HN : Hid (RunF m L (i + 1) ⟨c, A, out, q⟩) := run_no HR HX.out (fun h => by have h3 := h.2.2.1; rw [HDD.out] at h3; exact h3 h2)
            rw [h2] at qm
            clear h2 hxo hok hcl hcl2
            go_upto_region 7 with fail
            try simp only [Act.put, List.setIfInBounds_toArray, List.set_cons_zero, List.set_cons_succ]
            refine wp_region_quiet_below (by kernel_rfl) (by kernel_rfl) ?_
            repeat (first
              | go_big_quiet_step (fail))
            refine wpQuiet_nil ?_
            intro _ hw'
            obtain ⟨⟨dq, osq⟩, hw''⟩ := hw'
            have hb := below_regrown V dq osq
            subst hw''
            generalize grow (redrawn V dq) osq = V2 at hb ⊢
            clear q0 q1 qm qc
            replace hQ := hQ.below hb
            replace bc := bc.below hb
            replace bp := bp.below hb
            replace hB := hB.trans (hb.mono hB.size)
            replace hW := Nat.le_trans hW hb.size
            clear hb
            go_wp2_with fail
            exact ⟨⟨i + 1, p, c, A, out, q, qa, qc9, by omega, by omega, by go_num, rfl, HL, HN.out, hQ, bc, bp, hB, hW⟩, by simp [intOf]; omega⟩
          · have e4 : ((m d : Int) == 0) = false := by rw [beq_eq_false_iff_ne]; omega
            have e5 : (m d == 0) = false := by rw [beq_eq_false_iff_ne]; exact h2
            by_cases h3 : x.r = c d + 1
            · have hfr := hxo.hr
              rw [h3] at q1 hfr
              have HN : Hid (RunF m L (i + 1) (nxtF m ⟨c, A, out, q⟩ d (x.L.take 4))) := run_yes HR HX.out HDD.out hd8 h2 h3
              have HR3 : Hid (x.r = c d + 1) := h3
              clear h2 h3
              have hmn : (x.L.take 4).length = min ne 4 := by rw [List.length_take, he.out]; omega
              obtain ⟨k, hk⟩ : ∃ k, Hid (min ne 4 = k) := ⟨_, rfl⟩
              have hkm : (if (4 : Int) < (ne : Int) then (4 : Int) else (ne : Int)) = (k : Int) := by have := hk.out; split <;> omega
              rw [hk.out] at hmn
              have k4 : k ≤ 4 := by have := hk.out; omega
              have k0 : (0 : Int) ≤ (k : Int) := by omega
              have kc : (k : Int) ≤ (x.c : Int) := by have := hk.out; have := hxo.hl; have := he.out; omega
              have HEL : Hid (Li En.vals 0 x.a (x.L.take 4) w) := hxo.hS.take En.vals_length 4
              obtain ⟨QA, hQA⟩ : ∃ z, Hid (addQ (d : Int) (c d + 1) 0 (x.L.take 4) A = z) := ⟨_, rfl⟩
              obtain ⟨nA, hnA⟩ : ∃ z, Hid (QA.length = z) := ⟨_, rfl⟩
              obtain ⟨rr, hrr⟩ : ∃ z, Hid (c d + 1 = z) := ⟨_, rfl⟩
              have hlens := hok.lens
              have hql : A.length ≤ 240 := by have : A.length ≤ 4 * i := hok.al; omega
              have hnA2 : nA ≤ 244 := by have := addQ_size (d : Int) (c d + 1) (x.L.take 4) 0 A; rw [hQA.out, hnA.out] at this; omega
              have pA : ∀ v, P + 1 ≤ v.heap.size → Li Wt.vals (P + 1) qa A v → Li En.vals 0 x.a (x.L.take 4) v → Calls Try.prog 13 #[.slice qa p qc9, .int .i64 (d : Int), .int .u32 (rr : Int), .slice x.a k x.c] v fun e w' => (∃ a z, e = .returned (.slice a nA z) ∧ Li Wt.vals (P + 1) a QA w') ∧ Below v.heap.size v w' := fun v hz hv hv2 => by
                have h := radd_okB (P + 1) A (x.L.take 4) (d : Int) (c d + 1) qa x.a qc9 x.c (by omega) v hz hv hv2
                rw [hQA.out, HL.out, hmn, hrr.out] at h
                refine h.mono ?_
                rintro e w' ⟨⟨a, z, h1, h2⟩, h4⟩
                rw [hnA.out] at h1
                exact ⟨⟨a, z, h1, h2⟩, h4⟩
              have HN2 : Hid (RunF m L (i + 1) ⟨up8 c d, QA, out ++ rdyQ (up8 c d) m true (addQ (d : Int) (c d + 1) 0 (x.L.take 4) q), rstQ (up8 c d) m true (addQ (d : Int) (c d + 1) 0 (x.L.take 4) q)⟩) := by
                have h9 := HN.out
                unfold nxtF at h9
                simp only at h9
                rw [hQA.out] at h9
                exact h9
              clear HN hlens hql hmn hxo hok hcl
              go_upto_region 7 with fail
              try simp only [Act.put, List.setIfInBounds_toArray, List.set_cons_zero, List.set_cons_succ]
              refine wp_region_quiet_below (by kernel_rfl) (by kernel_rfl) ?_
              repeat (first
                | go_big_quiet_step (fail))
              refine wpQuiet_nil ?_
              intro _ hw'
              obtain ⟨⟨dq, osq⟩, hw''⟩ := hw'
              have hb := below_regrown V dq osq
              subst hw''
              generalize grow (redrawn V dq) osq = V2 at hb ⊢
              clear q0 q1 qm qc
              replace bf := bf.below hb
              replace hQ := hQ.below hb
              replace bc := bc.below hb
              replace bp := bp.below hb
              replace hB := hB.trans (hb.mono hB.size)
              replace hW := Nat.le_trans hW hb.size
              clear hb
              have f0 : V2.cell? ⟨zf, 0, none⟩ = some (.int .i64 (d : Int)) := (bf.cell 0 (.int .i64 x.f) rfl).trans (by rw [HDD.out])
              have g0 : V2.cell? ⟨P, d, none⟩ = some (.int .u32 (c d : Int)) := bc.cell d _ (mbc_get c d hd8)
              go_upto_region 9 with (go_big_may; refine store_one rfl 23 _ _ rfl (off := d) (.int .u32 ((c d : Int) + 1)) bc rfl rfl rfl rfl sizeU32 (by rw [mbc_size]; omega) ?_; intro w5 bc5 k5)
              try simp only [Act.put]
              rw [show (.int .u32 ((c d : Int) + 1) : Value) = .int .u32 ((c d + 1 : Nat) : Int) from rfl, mbc_set _ d _ hd8] at bc5
              replace bc : Blk P (mbc (up8 c d)) 28 w5 := bc5
              clear bc5 f0 g0
              replace bp := bp.kp1 k5 hPn
              replace bf := bf.kp1 k5 (by omega)
              replace hQ := hQ.kp k5 (fun i hi => by simp at hi; omega)
              replace hB := hB.trans (k5.below1 hPw hB.size)
              replace hW := Nat.lt_of_lt_of_le hW k5.size
              clear k5
              have f2 : w5.cell? ⟨zf, 2, none⟩ = some (.slice x.a ne x.c) := (bf.cell 2 (.slice x.a x.L.length x.c) rfl).trans (by rw [he.out])
              clear f2
              go_upto_region 9 with fail
              try simp only [Act.put, List.setIfInBounds_toArray, List.set_cons_zero, List.set_cons_succ]
              refine wp_region_held_drew (S := fun v => Below w5.heap.size w5 v) (by kernel_rfl) ((Below.refl _ _).drew) (fun hHeld => ?_)
              refine tkQ 0 hHeld ?_
              try simp only [yy]
              refine tkQ 1 hHeld ?_
              try simp only [yy]
              refine tkH 2 (v := ?v17) rfl (by kernel_rfl) (fun _ _ _ h => h) (Or.inl ⟨by rfl, ?hy17⟩) hHeld ?rest17
              case hy17 => (intro w hSw; have hc := (bf.below hSw).cell 0 (Value.int .i64 x.f) rfl; rw [HDD.out] at hc; clear hSw; go_simp; try with_reducible rfl)
              try simp only [yy]
              refine tkQ 3 hHeld ?_
              try simp only [yy]
              refine tkH 4 (v := ?v19) rfl (by kernel_rfl) (fun _ _ _ h => h) (Or.inl ⟨by rfl, ?hy19⟩) hHeld ?rest19
              case hy19 => (intro w hSw; have hc := (bf.below hSw).cell 1 (Value.int .u32 (x.r : Int)) rfl; rw [HR3.out, hrr.out] at hc; clear hSw; go_simp; try with_reducible rfl)
              try simp only [yy]
              refine tkQ 5 hHeld ?_
              try simp only [yy]
              refine tkH 6 (v := ?v21) rfl (by kernel_rfl) (fun _ _ _ h => h) (Or.inl ⟨by rfl, ?hy21⟩) hHeld ?rest21
              case hy21 => (intro w hSw; have hc := (bf.below hSw).cell 2 (Value.slice x.a x.L.length x.c) rfl; rw [he.out] at hc; clear hSw; go_simp; try with_reducible rfl)
              try simp only [yy]
              refine tkQ 7 hHeld ?_
              try simp only [yy]
              refine tkH 8 (v := ?v23) rfl (by kernel_rfl) (fun _ _ _ h => h) (Or.inl ⟨by rfl, ?hy23⟩) hHeld ?rest23
              case hy23 => (intro w hSw; have hc := (bf.below hSw).cell 2 (Value.slice x.a x.L.length x.c) rfl; rw [he.out] at hc; clear hSw; go_simp; try with_reducible rfl)
              try simp only [yy]
              refine tkQ 9 hHeld ?_
              try simp only [yy]
              refine tkQ 10 hHeld ?_
              try simp only [yy]
              refine tkQ 11 hHeld ?_
              try simp only [yy]
              refine rd1 12 (fun K hK => ?_)
              have hsv := hHeld.size
              go_simp
              go_wp2_with (refine (pA _ (by omega) (hQ.below hHeld) (HEL.out.below (hB.trans (hHeld.mono hB.size)))).mono ?_; rintro r u1 ⟨⟨a1, d1, rfl, hA1⟩, hb⟩)
              refine hK.out _ _ (below_next hHeld hb) (fun hHeld => ?_)
              clear hK K hb hsv
              refine tkQ 13 hHeld ?_
              try simp only [yy]
              refine wpAnyH_done (by kernel_rfl) ?_ _
              replace bc := bc.below hHeld
              replace bp := bp.below hHeld
              replace hB := hB.trans (hHeld.mono hB.size)
              replace hW := Nat.lt_of_lt_of_le hW hHeld.size
              clear hQ bf pA hHeld hkm
              go_wp2_with fail
              exact ⟨⟨i + 1, nA, up8 c d, QA, _, _, a1, d1, by omega, by omega, by go_num, rfl, hnA.out, HN2.out, hA1, bc, bp, hB, hW⟩, by simp [intOf]; omega⟩
            · have HN : Hid (RunF m L (i + 1) ⟨c, A, out, q⟩) := run_no HR HX.out (fun h => by have h4 := h.2.2.2; rw [HDD.out] at h4; exact h3 h4)
              have e6 : ((x.r : Int) != (c d : Int) + 1) = true := by rw [bne_iff_ne]; omega
              have e7 : (x.r != c d + 1) = true := by rw [bne_iff_ne]; exact h3
              clear h2 h3 hxo hok hcl
              go_upto_region 7 with fail
              try simp only [Act.put, List.setIfInBounds_toArray, List.set_cons_zero, List.set_cons_succ]
              refine wp_region_quiet_below (by kernel_rfl) (by kernel_rfl) ?_
              repeat (first
                | go_big_quiet_step (fail))
              refine wpQuiet_nil ?_
              intro _ hw'
              obtain ⟨⟨dq, osq⟩, hw''⟩ := hw'
              have hb := below_regrown V dq osq
              subst hw''
              generalize grow (redrawn V dq) osq = V2 at hb ⊢
              clear q0 q1 qm qc
              replace hQ := hQ.below hb
              replace bc := bc.below hb
              replace bp := bp.below hb
              replace hB := hB.trans (hb.mono hB.size)
              replace hW := Nat.le_trans hW hb.size
              clear hb
              go_wp2_with fail
              exact ⟨⟨i + 1, p, c, A, out, q, qa, qc9, by omega, by omega, by go_num, rfl, HL, HN.out, hQ, bc, bp, hB, hW⟩, by simp [intOf]; omega⟩
    · have HM : Hid (min n 60 = i) := by show _ = _; omega
      have hends : (¬ (i : Int) < (n : Int)) ∨ ((i : Int) < (n : Int) ∧ ¬ (i : Int) < 60) := by omega
      clear hgo bc bp
      rcases hends with h1 | ⟨h1, h2⟩
      · go_wp2_with fail
        go_ret
        refine ⟨⟨c, A, out, q⟩, ?_, ?_, hB⟩
        · rw [HM.out]; exact HR
        · refine ⟨qa, ⟨qc9, ?_⟩, hQ.mono (Nat.zero_le _)⟩
          show _ = Ending.returned (Value.slice qa A.length qc9)
          rw [HL.out]; rfl
      · go_wp2_with fail
        go_ret
        refine ⟨⟨c, A, out, q⟩, ?_, ?_, hB⟩
        · rw [HM.out]; exact HR
        · refine ⟨qa, ⟨qc9, ?_⟩, hQ.mono (Nat.zero_le _)⟩
          show _ = Ending.returned (Value.slice qa A.length qc9)
          rw [HL.out]; rfl


end Go.Proofs.Ytmnpbjaofemelaa
