/-
  Frames' contents are of no moment: two cores that see the same, but for what stands in frames, do the same, when, but for that: the law CoreBlind returns true for every input.
  No condition beyond the form's own.
-/
import Derived.Test.YthgmecgknhphmaaRows
import Derived.Test.YthgmecgknhphmaaCeSt
import Derived.Test.YthgmecgknhphmaaCgP
import Derived.Test.YthgmecgknhphmaaCfI
import Derived.WalkKit
import Derived.ProofKit
import Derived.OpenShut
import Derived.ShutString
import Derived.SizedLaws
import Derived.ChangeOld
import Derived.Below
namespace Go.Proofs.Ythgmecgknhphmaa.coreBlind
open Go.Sort Go.ChangeShapes Go.WideShapes Go.ChangeAt Go.RowKit
open Go.ChangeMaps (open_string shut_string)
set_option linter.unusedVariables false
set_option maxRecDepth 10000

theorem own : ownKnob Try.prog.godebug = none := by kernel_rfl
theorem length_bytes (s : ByteArray) : s.data.toList.length = s.size := by rw [Array.length_toList]; rfl

set_option maxHeartbeats 16000000 in
theorem walk (sI : Int) (_ws : (Lit.int .i64 sI).wf = true) (la : Option Addr) (L : List Ev) (lc : Nat) (lm : L.length ≤ maxLen) (fa : Option Addr) (G : List (Nat → En)) (fc : Nat) (gm : G.length ≤ maxLen) (w : World) (hS0 : Li Ev.vals 0 la L w) (hF0 : Li frv 0 fa G w) :
    Calls Try.prog 6 #[.int .i64 sI, .slice la L.length lc, .slice fa G.length fc] w fun e w' => e = .returned (.bool true) ∧ Below w.heap.size w w' := by
  have pS := start_ok sI 1 3
  have pS2 := start_ok sI 1 3
  obtain ⟨B, hQ⟩ : ∃ Q, startB sI 1 3 = Q := ⟨_, rfl⟩
  obtain ⟨C0, hC0⟩ : ∃ c, Hid (startC sI 1 3 = c) := ⟨_, rfl⟩
  rw [hQ, hC0.out] at pS pS2
  obtain ⟨N, hN⟩ : ∃ N, L.length = N := ⟨_, rfl⟩
  obtain ⟨N2, hN2⟩ : ∃ N, G.length = N := ⟨_, rfl⟩
  simp only [maxLen] at lm gm
  rw [hN] at lm ⊢
  rw [hN2] at gm ⊢
  have HN : Hid (L.length = N) := hN
  have HN2 : Hid (G.length = N2) := hN2
  clear hN hN2
  go_enter Try.func6, Try.ntmps6
  go_wp2_with fail
  refine (pS _).mono ?_
  rintro r w0 ⟨rfl, hB⟩
  clear pS
  have hq0 := hB.size
  have hb := below_box w0 (.cells (coc C0) 35)
  have v0 := blk_new w0 (coc C0) 35
  go_upto_region 2 with (first | refine alloc_zero zeroCo rfl rfl ?_ | refine store_new rfl 35 _ _ rfl (cells := coc C0) rfl rfl sizeCo rfl (coc_one _) ?_)
  try simp only [Act.put, List.setIfInBounds_toArray, List.set_cons_zero, List.set_cons_succ]
  generalize w0.alloc (Obj.cells (coc C0) 35) = W0 at v0 hb ⊢
  replace hB := hB.trans (hb.mono hB.size)
  clear hb 
  generalize w0.heap.size = q at v0 hq0 ⊢
  go_wp2_with fail
  refine (pS2 _).mono ?_
  rintro r w1 ⟨rfl, hb⟩
  replace v0 := v0.below hb
  replace hB := hB.trans (hb.mono hB.size)
  clear hb pS2
  have hq1 := hB.size
  have hql := v0.lt
  have hb := below_box w1 (.cells (coc C0) 35)
  have z0 := blk_new w1 (coc C0) 35
  go_upto_region 3 with (first | refine alloc_zero zeroCo rfl rfl ?_ | refine store_new rfl 35 _ _ rfl (cells := coc C0) rfl rfl sizeCo rfl (coc_one _) ?_)
  try simp only [Act.put, List.setIfInBounds_toArray, List.set_cons_zero, List.set_cons_succ]
  generalize w1.alloc (Obj.cells (coc C0) 35) = W1 at z0 hb ⊢
  replace v0 := v0.below hb
  replace hB := hB.trans (hb.mono hB.size)
  clear hb 
  generalize w1.heap.size = z at z0 hq1 hql ⊢
  go_wp2_with fail
  refine (fixed_ok _).mono ?_
  rintro r w2 ⟨rfl, hb⟩
  replace v0 := v0.below hb
  replace z0 := z0.below hb
  replace hB := hB.trans (hb.mono hB.size)
  clear hb 
  cases B with
  | false =>
    clear v0 z0 hC0
    go_wp2_with fail
    refine (fixed_ok _).mono ?_
    rintro r w9 ⟨rfl, hb⟩
    replace hB := hB.trans (hb.mono hB.size)
    go_wp2_with fail
    go_ret
    exact ⟨rfl, hB⟩
  | true =>
    have hQ' := of_decide_eq_true hQ
    obtain ⟨s, rfl⟩ : ∃ s : Nat, sI = (s : Int) := ⟨sI.toNat, by omega⟩
    have hs : s < 8 := by omega
    have HA : Hid (C0.self = (s : Int) ∧ C0.fit ∧ ([] : List Kt).length ≤ 3 * 0 ∧ ([] : List Kt).length ≤ 3 * 0 ∧ likes [] []) := by
      refine ⟨?_, ?_, by simp, by simp, trivial⟩
      · rw [← hC0.out, startC, hQ, if_pos rfl]
      · rw [← hC0.out]; exact fit_start (by omega) 3 hQ
    have hz : Hid (C0.ka = none ∧ C0.kn = 0 ∧ C0.kc = 0) := by show C0.ka = none ∧ C0.kn = 0 ∧ C0.kc = 0; rw [← hC0.out, startC, hQ, if_pos rfl]; exact ⟨rfl, rfl, rfl⟩
    have hkp : C0.kp none ([] : List Kt).length 0 = C0 := by
      have h := kp_self C0 0 hz.out.2.1
      rw [hz.out.1, hz.out.2.2] at h
      exact h
    have v1 : Blk q (coc (C0.kp none ([] : List Kt).length 0)) 35 w2 := by rw [hkp]; exact v0
    have z1 : Blk z (coc (C0.kp none ([] : List Kt).length 0)) 35 w2 := by rw [hkp]; exact z0
    clear v0 z0 hC0 hz hQ hQ' hkp
    go_upto_region 6 with fail
    go_loopw [11] (fun iv wr => ∃ (i : Nat) (c : Co) (K : List Kt) (a : Option Addr) (k : Nat) (M : List Kt) (b : Option Addr) (j : Nat), i ≤ N ∧ i ≤ 60 ∧ iv = .int .i64 i ∧ Hid (c.self = (s : Int) ∧ c.fit ∧ K.length ≤ 3 * i ∧ M.length ≤ 3 * i ∧ likes K M) ∧ Blk q (coc (c.kp a K.length k)) 35 wr ∧ Blk z (coc (c.kp b M.length j)) 35 wr ∧ Li Kt.vals 0 a K wr ∧ Li Kt.vals 0 b M wr ∧ Below w.heap.size w wr) (fun iv _ => 1000 - (intOf iv).toNat)
    case atStart => exact ⟨0, C0, [], none, 0, [], none, 0, by omega, by omega, rfl, HA, v1, z1, Li.nil _ _ _, Li.nil _ _ _, hB⟩
    case round =>
      clear v1 z1 hB HA
      obtain ⟨i, c, K, a, k, M, b, j, hiN, hi2, rfl, HI, v0, z0, lk, lb, hB⟩ := hrel
      rename World => V
      by_cases hjn : i < N
      · have j0 : (i : Int) < (N : Int) := by omega
        by_cases hj2 : i < 60
        · have j2 : (i : Int) < 60 := by omega
          have j1 : (0 : Int) ≤ (i : Int) := by omega
          obtain ⟨x, hk⟩ : ∃ k, L[i]? = some k := ⟨_, List.getElem?_eq_getElem (by rw [HN.out]; exact hjn)⟩
          have hS : Li Ev.vals 0 la L V := hS0.below hB
          have hF : Li frv 0 fa G V := hF0.below hB
          obtain ⟨eb, eo, rfl, _, hebl, her⟩ := hS.at Ev.vals_length i x hk
          clear hS
          obtain ⟨hsf, hfit, hKl, hMl, hlk⟩ := HI.out
          obtain ⟨f, hf⟩ : ∃ f, Hid ((G[i]?).getD noFr = f) := ⟨_, rfl⟩
          have pt := fun u h => step_ok c K x s hs hsf hfit a k (by omega) u h
          have ps := fun u h => step_ok c M (x.with f) s hs hsf hfit b j (by omega) u h
          have hst := Bs.step (c := c) (d := c) (fun _ _ _ => rfl) hlk x f
          have hfit2 := stepS_fit hfit s hs hsf K x
          have hlen1 := stepS_len c K x
          have hlen2 := stepS_len c M (x.with f)
          have hself2 : (stepS c K x).c.self = (s : Int) := by
            unfold stepS
            split
            · exact (tickS_self c K x.f).1.trans hsf
            · exact (recvS_self c K x.p).1.trans hsf
          obtain ⟨S, hSS⟩ : ∃ S, stepS c K x = S := ⟨_, rfl⟩
          obtain ⟨Q, hQQ⟩ : ∃ S, stepS c M (x.with f) = S := ⟨_, rfl⟩
          rw [hSS] at pt hst hfit2 hlen1 hself2
          rw [hQQ] at ps hst hlen2
          have HJ : Hid (S.c.self = (s : Int) ∧ S.c.fit ∧ S.L.length ≤ 3 * (i + 1) ∧ Q.L.length ≤ 3 * (i + 1) ∧ likes S.L Q.L) := ⟨hself2, hfit2, by omega, by omega, hst.L⟩
          obtain ⟨e1, he1⟩ : ∃ e, Hid (c.kp a K.length k = e) := ⟨_, rfl⟩
          obtain ⟨e2, he2⟩ : ∃ e, Hid (c.kp b M.length j = e) := ⟨_, rfl⟩
          rw [he1.out] at v0 pt
          rw [he2.out] at z0 ps
          have HST : Hid (Bs S Q) := hst
          have hSl : S.L.length ≤ 183 := by omega
          have hQl : Q.L.length ≤ 183 := by omega
          have hTl : S.t.length ≤ 4 := hlen1.2
          have hUl : Q.t.length ≤ 4 := hlen2.2
          clear hst hfit2 hlen1 hlen2 hself2 hsf hfit hKl hMl hlk hSS hQQ HI he1 he2
          have hqV := v0.lt
          have hzV := z0.lt
          have hV : Below V.heap.size V V := Below.refl _ _
          -- e, f
          have hb := below_box V (.cells x.arr 61)
          have x0 := blk_new V x.arr 61
          have hs_p := hV.size
          go_upto_region 9 with (first | refine load_range rfl 61 _ rfl (o := eo + i * 182) x.vals her rfl Try.underlying61 rfl sizeEv ?_ | refine alloc_zero zeroEv rfl rfl ?_ | refine store_new rfl 61 _ _ rfl (cells := x.arr) rfl rfl sizeEv rfl x.arr_one ?_)
          try simp only [Act.put, List.setIfInBounds_toArray, List.set_cons_zero, List.set_cons_succ]
          have hq_p : V.heap.size < (V.alloc (Obj.cells x.arr 61)).heap.size := by rw [alloc_size]; omega
          generalize V.alloc (Obj.cells x.arr 61) = V1 at x0 hb hq_p ⊢
          replace hV := hV.trans (hb.mono hV.size)
          clear hb 
          clear her hs_p
          obtain ⟨p, hp⟩ : ∃ p, V.heap.size = p := ⟨_, rfl⟩
          rw [hp] at x0 hq_p ⊢
          have hb := below_box V1 (.cells (frc noFr) 41)
          have f1 := blk_new V1 (frc noFr) 41
          go_upto_region 10 with (first | (refine build_as rfl 41 #[] rfl (C := frc noFr) ?_ ?_; kernel_rfl) | refine alloc_zero zeroFr rfl rfl ?_ | refine store_new rfl 41 _ _ rfl (cells := frc noFr) rfl rfl sizeFr rfl (frc_one _) ?_)
          try simp only [Act.put, List.setIfInBounds_toArray, List.set_cons_zero, List.set_cons_succ]
          generalize V1.alloc (Obj.cells (frc noFr) 41) = V2 at f1 hb ⊢
          replace x0 := x0.below hb
          replace hV := hV.trans (hb.mono hV.size)
          clear hb 
          generalize V1.heap.size = pf at f1 hq_p ⊢
          have hpf := f1.lt
          obtain ⟨T0, hT0⟩ : ∃ T, Hid (decide (i < N2) = T) := ⟨_, rfl⟩
          go_cut [53] from 50 to 52 (fun v wx => v = .bool T0 ∧ wx = V2)
          case first =>
            clear pt ps
            by_cases h0 : i < N2
            · have g0 : (i : Int) < (N2 : Int) := by omega
              obtain rfl : T0 = true := by rw [← hT0.out]; simp [h0]
              go_wp2_with fail
              go_meet
              exact ⟨rfl, rfl⟩
            · have g0 : ¬ (i : Int) < (N2 : Int) := by omega
              obtain rfl : T0 = false := by rw [← hT0.out]; simp [h0]
              go_wp2_with fail
              go_meet
              exact ⟨rfl, rfl⟩
          case rest =>
          obtain ⟨rfl, rfl⟩ := hcut
          go_upto_if 53 with fail
          go_cut [13] from 54 to 57 (fun v wx => v = .pointer (some ⟨pf, 0, none⟩) ∧ Blk pf (frc f) 41 wx ∧ Blk p x.arr 61 wx ∧ Below V.heap.size V wx)
          case first =>
            clear pt ps
            by_cases h0 : i < N2
            · obtain rfl : T0 = true := by rw [← hT0.out]; simp [h0]
              have g0 : (i : Int) < (N2 : Int) := by omega
              obtain ⟨g, hg⟩ : ∃ g, G[i]? = some g := ⟨_, List.getElem?_eq_getElem (by rw [HN2.out]; exact h0)⟩
              obtain rfl : f = g := by rw [← hf.out, hg]; rfl
              have hF2 := hF.below hV
              obtain ⟨gb, go, rfl, _, _, hgr⟩ := hF2.at frv_length i f hg
              clear hf hg hF hF2 hT0
              go_wp2_with (first | refine load_range rfl 41 _ rfl (o := go + i * 36) (frv f) hgr rfl Try.underlying41 rfl sizeFr ?_ | (refine store_part rfl 41 _ _ rfl (off := 0) (cells := frc f) f1 rfl rfl sizeFr (Nat.le_refl _) (frc_one _) ?_; intro w7 b7 k7; rw [fr_all] at b7))
              go_meet
              exact ⟨rfl, b7, x0.kp1 k7 (by omega), hV.trans (k7.below1 (by omega) hV.size)⟩
            · obtain rfl : T0 = false := by rw [← hT0.out]; simp [h0]
              have hg : G[i]? = none := List.getElem?_eq_none (by rw [HN2.out]; omega)
              obtain rfl : f = noFr := by rw [← hf.out, hg]; rfl
              clear hf hg hT0
              go_wp2_with fail
              go_meet
              exact ⟨rfl, f1, x0, hV⟩
          case rest =>
            clear f1 x0 hV hF
            obtain ⟨rfl, f0, x0, hV⟩ := hcut
            rename World => V3
            have hp3 := x0.lt
            have hpf3 := f0.lt
            have v3 := v0.below hV
            -- step of a
            go_wp2_with (first | refine load_blk rfl 35 _ rfl v3 rfl Try.underlying35 rfl sizeCo ?_ | refine load_blk rfl 61 _ rfl x0 rfl Try.underlying61 rfl sizeEv ?_)
            refine (pt _ (lk.below hV)).mono ?_
            rintro r w3 ⟨⟨a2, k2, ta, tk, rfl, l2, m2⟩, hb⟩
            clear pt v3
            have hs3 := hb.size
            have o2p := Off.li l2 p (.inl hp3)
            have om2p := Off.li m2 p (.inl hp3)
            have o2q := Off.li l2 q (.inl (by omega))
            have o2z := Off.li l2 z (.inl (by omega))
            replace f0 := f0.below hb
            replace x0 := x0.below hb
            replace hV := hV.trans (hb.mono hV.size)
            clear hb 
            obtain ⟨d, hd⟩ : ∃ d, Hid (S.c.kp a2 S.L.length k2 = d) := ⟨_, rfl⟩
            rw [hd.out]
            have hb := below_box w3 (.cells (coc d) 35)
            have y0 := blk_new w3 (coc d) 35
            go_upto_region 13 with (first | refine alloc_zero zeroCo rfl rfl ?_ | refine store_new rfl 35 _ _ rfl (cells := coc d) rfl rfl sizeCo rfl (coc_one _) ?_)
            try simp only [Act.put, List.setIfInBounds_toArray, List.set_cons_zero, List.set_cons_succ]
            generalize w3.alloc (Obj.cells (coc d) 35) = V4 at y0 hb ⊢
            replace f0 := f0.below hb
            replace x0 := x0.below hb
            replace l2 := l2.below hb
            replace m2 := m2.below hb
            replace hV := hV.trans (hb.mono hV.size)
            clear hb 
            generalize w3.heap.size = y at y0 hs3 ⊢
            -- e with f
            go_upto_region 14 with (first | refine load_blk rfl 41 _ rfl f0 rfl Try.underlying41 rfl sizeFr ?_ | (refine store_part rfl 41 _ _ rfl (off := 1) (cells := frc f) x0 rfl rfl sizeFr (show 1 + 36 ≤ 182 by decide) (frc_one _) ?_; intro w5 x5 k5; rw [Ev.a] at x5))
            try simp only [Act.put]
            obtain ⟨e1, he1⟩ : ∃ e, Hid (x.aw f = e) := ⟨_, rfl⟩
            rw [he1.out] at x5
            replace f0 := f0.kp1 k5 (by omega)
            replace y0 := y0.kp1 k5 (by omega)
            replace l2 := l2.off k5 (fun p hp => by simp at hp; subst hp; exact o2p)
            replace m2 := m2.off k5 (fun p hp => by simp at hp; subst hp; exact om2p)
            replace hV := hV.trans (k5.below1 (by omega) hV.size)
            clear k5 x0
            go_upto_region 15 with (first | refine load_blk rfl 41 _ rfl f0 rfl Try.underlying41 rfl sizeFr ?_ | (refine store_part rfl 41 _ _ rfl (off := 72) (cells := frc f) x5 rfl rfl sizeFr (show 72 + 36 ≤ 182 by decide) (frc_one _) ?_; intro w6 x6 k6; rw [Ev.b] at x6))
            try simp only [Act.put]
            obtain ⟨e2, he2⟩ : ∃ e, Hid (e1.bw f = e) := ⟨_, rfl⟩
            rw [he2.out] at x6
            replace f0 := f0.kp1 k6 (by omega)
            replace y0 := y0.kp1 k6 (by omega)
            replace l2 := l2.off k6 (fun p hp => by simp at hp; subst hp; exact o2p)
            replace m2 := m2.off k6 (fun p hp => by simp at hp; subst hp; exact om2p)
            replace hV := hV.trans (k6.below1 (by omega) hV.size)
            clear k6 x5
            go_upto_region 16 with (first | refine load_blk rfl 41 _ rfl f0 rfl Try.underlying41 rfl sizeFr ?_ | (refine store_part rfl 41 _ _ rfl (off := 108) (cells := frc f) x6 rfl rfl sizeFr (show 108 + 36 ≤ 182 by decide) (frc_one _) ?_; intro w7 x7 k7; rw [Ev.c] at x7))
            try simp only [Act.put]
            obtain ⟨e3, he3⟩ : ∃ e, Hid (e2.cw f = e) := ⟨_, rfl⟩
            rw [he3.out] at x7
            replace f0 := f0.kp1 k7 (by omega)
            replace y0 := y0.kp1 k7 (by omega)
            replace l2 := l2.off k7 (fun p hp => by simp at hp; subst hp; exact o2p)
            replace m2 := m2.off k7 (fun p hp => by simp at hp; subst hp; exact om2p)
            replace hV := hV.trans (k7.below1 (by omega) hV.size)
            clear k7 x6
            go_upto_region 17 with (first | refine load_blk rfl 41 _ rfl f0 rfl Try.underlying41 rfl sizeFr ?_ | (refine store_part rfl 41 _ _ rfl (off := 146) (cells := frc f) x7 rfl rfl sizeFr (show 146 + 36 ≤ 182 by decide) (frc_one _) ?_; intro w8 x8 k8; rw [Ev.d] at x8))
            try simp only [Act.put]
            obtain ⟨e4, he4⟩ : ∃ e, Hid (e3.dw f = e) := ⟨_, rfl⟩
            rw [he4.out] at x8
            replace f0 := f0.kp1 k8 (by omega)
            replace y0 := y0.kp1 k8 (by omega)
            replace l2 := l2.off k8 (fun p hp => by simp at hp; subst hp; exact o2p)
            replace m2 := m2.off k8 (fun p hp => by simp at hp; subst hp; exact om2p)
            replace hV := hV.trans (k8.below1 (by omega) hV.size)
            clear k8 x7
            have he4' : e4 = x.with f := by rw [← he4.out, ← he3.out, ← he2.out, ← he1.out]; exact Ev.with_all x f
            rw [he4'] at x8
            clear he1 he2 he3 he4 he4'
            have z3 := z0.below hV
            have hp8 := x8.lt
            have hy8 := y0.lt
            have hpf8 := f0.lt
            go_wp2_with (first | refine load_blk rfl 35 _ rfl z3 rfl Try.underlying35 rfl sizeCo ?_ | refine load_blk rfl 61 _ rfl x8 rfl Try.underlying61 rfl sizeEv ?_)
            refine (ps _ (lb.below hV)).mono ?_
            rintro r w9 ⟨⟨a3, k3, tb, tj, rfl, l3, m3⟩, hb⟩
            clear ps z3 x8 f0
            have o3q := Off.li l3 q (.inl (by omega))
            have o3z := Off.li l3 z (.inl (by omega))
            have hs9 := hb.size
            replace y0 := y0.below hb
            replace l2 := l2.below hb
            replace m2 := m2.below hb
            replace hV := hV.trans (hb.mono hV.size)
            clear hb 
            obtain ⟨d2, hd2⟩ : ∃ d, Hid (S.c.kp a3 Q.L.length k3 = d) := ⟨_, rfl⟩
            rw [← HST.out.c, hd2.out]
            have hb := below_box w9 (.cells (coc d2) 35)
            have v2 := blk_new w9 (coc d2) 35
            go_upto_region 18 with (first | refine alloc_zero zeroCo rfl rfl ?_ | refine store_new rfl 35 _ _ rfl (cells := coc d2) rfl rfl sizeCo rfl (coc_one _) ?_)
            try simp only [Act.put, List.setIfInBounds_toArray, List.set_cons_zero, List.set_cons_succ]
            generalize w9.alloc (Obj.cells (coc d2) 35) = V5 at v2 hb ⊢
            replace y0 := y0.below hb
            replace l2 := l2.below hb
            replace m2 := m2.below hb
            replace l3 := l3.below hb
            replace m3 := m3.below hb
            replace hV := hV.trans (hb.mono hV.size)
            clear hb 
            generalize w9.heap.size = v at v2 hs9 ⊢
            replace l2 := l2.mono (Nat.zero_le _)
            replace l3 := l3.mono (Nat.zero_le _)
            replace m2 := m2.mono (Nat.zero_le _)
            replace m3 := m3.mono (Nat.zero_le _)
            obtain ⟨LB, hLB⟩ : ∃ l, S.L.map Kt.bare = l := ⟨_, rfl⟩
            obtain ⟨TB, hTB⟩ : ∃ l, S.t.map Hp.bare = l := ⟨_, rfl⟩
            have hLB2 : Q.L.map Kt.bare = LB := by rw [← hLB, likes_bare _ _ HST.out.L]
            have hTB2 : Q.t.map Hp.bare = TB := by rw [← hTB, HST.out.t]
            have n1 : S.L.length = LB.length := by rw [← hLB, List.length_map]
            have n2 : Q.L.length = LB.length := by rw [← hLB2, List.length_map]
            have n3 : S.t.length = TB.length := by rw [← hTB, List.length_map]
            have n4 : Q.t.length = TB.length := by rw [← hTB2, List.length_map]
            have pP1 := fun u h => rplain_ok S.c S.L a2 k2 (by omega) u h
            have pP2 := fun u h => (rplain_ok Q.c Q.L a3 k3 (by omega) u h).mono (fun e w' h9 => (⟨h9.1.sim (fun a n k => (HST.out.c a n k).symm), h9.2⟩ : Plained S.c (Q.L.map Kt.bare) u.heap.size e w' ∧ Below u.heap.size u w'))
            have pT1 := fun u h => rptold_ok S.t ta tk (by omega) u h
            have pT2 := fun u h => rptold_ok Q.t tb tj (by omega) u h
            have pI := fun b1 j1 b2 j2 u h1 h2 => ris_ok S.c LB b1 b2 j1 j2 (by omega) u h1 h2
            have pT := fun b1 j1 b2 j2 u h1 h2 => rtold_ok TB b1 b2 j1 j2 (by omega) u h1 h2
            simp only [← HST.out.c] at pP2
            rw [hd.out, hLB] at pP1
            rw [hd2.out, hLB2] at pP2
            rw [hTB] at pT1
            rw [hTB2] at pT2
            clear hLB hTB hLB2 hTB2 n1 n2 n3 n4 hSl hQl hTl hUl
            go_cut [94] from 81 to 93 (fun v wx => v = .bool false ∧ Below V5.heap.size V5 wx)
            case first =>
              clear HJ HST hd hd2 o2p om2p o2q o2z o3q o3z
              refine wp_region_held_drew (S := fun w' => Below V5.heap.size V5 w') (by kernel_rfl) (Below.refl _ _).drew (fun hHeld => ?_)
              refine' wpAnyH_take (i := 0) (v := _) rfl (by kernel_rfl) (by kernel_rfl) (by kernel_rfl) (fun _ _ _ h => h) (yieldsIf_load_mid (by rfl) _ _ rfl y 0 rfl (col d) _ ?hS1 Try.underlying35 rfl sizeCo) hHeld ?rest1
              case hS1 => exact fun w h => (y0.below h).whole
              try simp only [List.getElem_toArray]
              try simp only [List.getElem_cons_succ]
              try simp only [List.getElem_cons_zero]
              try simp only [Act.put]
              try simp only [List.setIfInBounds_toArray]
              try simp only [List.set_cons_succ]
              try simp only [List.set_cons_zero]
              refine' wpAnyH_take (i := 2) (v := _) rfl (by kernel_rfl) (by kernel_rfl) (by kernel_rfl) (fun _ _ _ h => h) (yieldsIf_load_mid (by rfl) _ _ rfl v 0 rfl (col d2) _ ?hS2 Try.underlying35 rfl sizeCo) hHeld ?rest2
              case hS2 => exact fun w h => (v2.below h).whole
              try simp only [List.getElem_toArray]
              try simp only [List.getElem_cons_succ]
              try simp only [List.getElem_cons_zero]
              try simp only [Act.put]
              try simp only [List.setIfInBounds_toArray]
              try simp only [List.set_cons_succ]
              try simp only [List.set_cons_zero]
              refine wpAnyH_ready (rs := [1]) (by kernel_rfl) (by simp) ?_
              refine AllReadyH.cons rfl (fun K hK => ?_) (AllReadyH.nil)
              go_simp
              go_wp2_with (refine (pP1 _ (l2.below hHeld)).mono ?_; rintro r u1 ⟨⟨b1, j1, rfl, pl1⟩, hb⟩)
              refine hK.out _ _ (hHeld.below hb) (fun hHeld => ?_)
              clear hK K hb
              refine wpAnyH_ready (rs := [3]) (by kernel_rfl) (by simp) ?_
              refine AllReadyH.cons rfl (fun K hK => ?_) (AllReadyH.nil)
              go_simp
              go_wp2_with (refine (pP2 _ (l3.below hHeld)).mono ?_; rintro r u2 ⟨⟨b2, j2, rfl, pl2⟩, hb⟩)
              replace pl1 := pl1.below hb
              refine hK.out _ _ (hHeld.below hb) (fun hHeld => ?_)
              clear hK K hb
              refine wpAnyH_ready (rs := [4]) (by kernel_rfl) (by simp) ?_
              refine AllReadyH.cons rfl (fun K hK => ?_) (AllReadyH.nil)
              go_simp
              go_wp2_with (refine (pI b1 j1 b2 j2 _ (pl1.mono (Nat.zero_le _)) (pl2.mono (Nat.zero_le _))).mono ?_; rintro r u3 ⟨rfl, hb⟩)
              replace pl1 := pl1.below hb
              replace pl2 := pl2.below hb
              refine hK.out _ _ (hHeld.below hb) (fun hHeld => ?_)
              clear hK K hb
              refine wpAnyH_take (i := 5) (v := ?v3) rfl (by kernel_rfl) (by kernel_rfl) (by kernel_rfl) (fun _ _ _ h => h) (Or.inl ⟨by rfl, ?hy3⟩) hHeld ?rest3
              case hy3 => (intro w hSw; clear hSw; go_simp; try with_reducible rfl)
              try simp only [List.getElem_toArray]
              try simp only [List.getElem_cons_succ]
              try simp only [List.getElem_cons_zero]
              try simp only [Act.put]
              try simp only [List.setIfInBounds_toArray]
              try simp only [List.set_cons_succ]
              try simp only [List.set_cons_zero]
              refine wpAnyH_take (i := 6) (v := ?v4) rfl (by kernel_rfl) (by kernel_rfl) (by kernel_rfl) (fun _ _ _ h => h) (Or.inl ⟨by rfl, ?hy4⟩) hHeld ?rest4
              case hy4 => (intro w hSw; clear hSw; go_simp; try with_reducible rfl)
              try simp only [List.getElem_toArray]
              try simp only [List.getElem_cons_succ]
              try simp only [List.getElem_cons_zero]
              try simp only [Act.put]
              try simp only [List.setIfInBounds_toArray]
              try simp only [List.set_cons_succ]
              try simp only [List.set_cons_zero]
              refine wpAnyH_take (i := 7) (v := ?v5) rfl (by kernel_rfl) (by kernel_rfl) (by kernel_rfl) (fun _ _ _ h => h) (Or.inl ⟨by rfl, ?hy5⟩) hHeld ?rest5
              case hy5 => (intro w hSw; clear hSw; go_simp; try with_reducible rfl)
              try simp only [List.getElem_toArray]
              try simp only [List.getElem_cons_succ]
              try simp only [List.getElem_cons_zero]
              try simp only [Act.put]
              try simp only [List.setIfInBounds_toArray]
              try simp only [List.set_cons_succ]
              try simp only [List.set_cons_zero]
              refine wpAnyH_take (i := 9) (v := ?v6) rfl (by kernel_rfl) (by kernel_rfl) (by kernel_rfl) (fun _ _ _ h => h) (Or.inl ⟨by rfl, ?hy6⟩) hHeld ?rest6
              case hy6 => (intro w hSw; clear hSw; go_simp; try with_reducible rfl)
              try simp only [List.getElem_toArray]
              try simp only [List.getElem_cons_succ]
              try simp only [List.getElem_cons_zero]
              try simp only [Act.put]
              try simp only [List.setIfInBounds_toArray]
              try simp only [List.set_cons_succ]
              try simp only [List.set_cons_zero]
              refine wpAnyH_ready (rs := [8]) (by kernel_rfl) (by simp) ?_
              refine AllReadyH.cons rfl (fun K hK => ?_) (AllReadyH.nil)
              go_simp
              go_wp2_with (refine (pT1 _ (m2.below hHeld)).mono ?_; rintro r u4 ⟨⟨b3, j3, rfl, pl3⟩, hb⟩)
              replace pl1 := pl1.below hb
              replace pl2 := pl2.below hb
              refine hK.out _ _ (hHeld.below hb) (fun hHeld => ?_)
              clear hK K hb
              refine wpAnyH_ready (rs := [10]) (by kernel_rfl) (by simp) ?_
              refine AllReadyH.cons rfl (fun K hK => ?_) (AllReadyH.nil)
              go_simp
              go_wp2_with (refine (pT2 _ (m3.below hHeld)).mono ?_; rintro r u5 ⟨⟨b4, j4, rfl, pl4⟩, hb⟩)
              replace pl1 := pl1.below hb
              replace pl2 := pl2.below hb
              replace pl3 := pl3.below hb
              refine hK.out _ _ (hHeld.below hb) (fun hHeld => ?_)
              clear hK K hb
              refine wpAnyH_ready (rs := [11]) (by kernel_rfl) (by simp) ?_
              refine AllReadyH.cons rfl (fun K hK => ?_) (AllReadyH.nil)
              go_simp
              go_wp2_with (refine (pT b3 j3 b4 j4 _ (pl3.mono (Nat.zero_le _)) (pl4.mono (Nat.zero_le _))).mono ?_; rintro r u6 ⟨rfl, hb⟩)
              replace pl1 := pl1.below hb
              replace pl2 := pl2.below hb
              replace pl3 := pl3.below hb
              replace pl4 := pl4.below hb
              refine hK.out _ _ (hHeld.below hb) (fun hHeld => ?_)
              clear hK K hb
              refine wpAnyH_take (i := 12) (v := ?v7) rfl (by kernel_rfl) (by kernel_rfl) (by kernel_rfl) (fun _ _ _ h => h) (Or.inl ⟨by rfl, ?hy7⟩) hHeld ?rest7
              case hy7 => (intro w hSw; clear hSw; go_simp; try with_reducible rfl)
              try simp only [List.getElem_toArray]
              try simp only [List.getElem_cons_succ]
              try simp only [List.getElem_cons_zero]
              try simp only [Act.put]
              try simp only [List.setIfInBounds_toArray]
              try simp only [List.set_cons_succ]
              try simp only [List.set_cons_zero]
              refine wpAnyH_take (i := 13) (v := ?v8) rfl (by kernel_rfl) (by kernel_rfl) (by kernel_rfl) (fun _ _ _ h => h) (Or.inl ⟨by rfl, ?hy8⟩) hHeld ?rest8
              case hy8 => (intro w hSw; clear hSw; go_simp; try with_reducible rfl)
              try simp only [List.getElem_toArray]
              try simp only [List.getElem_cons_succ]
              try simp only [List.getElem_cons_zero]
              try simp only [Act.put]
              try simp only [List.setIfInBounds_toArray]
              try simp only [List.set_cons_succ]
              try simp only [List.set_cons_zero]
              refine wpAnyH_done (by kernel_rfl) ?_ _
              go_wp2_with fail
              go_meet
              exact ⟨rfl, hHeld⟩
            case rest =>
              obtain ⟨rfl, hb⟩ := hcut
              clear pP1 pP2 pT1 pT2 pI pT m2 m3
              replace y0 := y0.below hb
              replace v2 := v2.below hb
              replace l2 := l2.below hb
              replace l3 := l3.below hb
              replace hV := hV.trans (hb.mono hV.size)
              clear hb 
              have v3 := v0.below hV
              have z3 := z0.below hV
              clear v0 z0
              have v0 := v3
              have z0 := z3
              clear v3 z3
              replace hB := hB.trans (hV.mono hB.size)
              clear hV hF0 hS0 HST
              go_upto_region 20 with fail
              replace v0 := v0.drew
              replace z0 := z0.drew
              replace l2 := l2.below (Below.refl _ _).drew
              replace l3 := l3.below (Below.refl _ _).drew
              replace hB := hB.drew
              refine wp_region_held_drew (S := fun w' => Blk y (coc d) 35 w' ∧ Blk v (coc d2) 35 w') (by kernel_rfl) ⟨y0.drew, v2.drew⟩ (fun hHeld => ?_)
              refine' wpAnyH_take (i := 0) (v := _) rfl (by kernel_rfl) (by kernel_rfl) (by kernel_rfl) (fun _ _ _ h => h) (yieldsIf_load_mid (by rfl) _ _ rfl y 0 rfl (col d) _ ?hS9 Try.underlying35 rfl sizeCo) hHeld ?rest9
              case hS9 => exact fun w h => h.1.whole
              try simp only [List.getElem_toArray]
              try simp only [List.getElem_cons_succ]
              try simp only [List.getElem_cons_zero]
              try simp only [Act.put]
              try simp only [List.setIfInBounds_toArray]
              try simp only [List.set_cons_succ]
              try simp only [List.set_cons_zero]
              refine' wpAnyH_take (i := 1) (v := _) rfl (by kernel_rfl) (by kernel_rfl) (by kernel_rfl) (fun _ _ _ h => h) (yieldsIf_load_mid (by rfl) _ _ rfl v 0 rfl (col d2) _ ?hS10 Try.underlying35 rfl sizeCo) hHeld ?rest10
              case hS10 => exact fun w h => h.2.whole
              try simp only [List.getElem_toArray]
              try simp only [List.getElem_cons_succ]
              try simp only [List.getElem_cons_zero]
              try simp only [Act.put]
              try simp only [List.setIfInBounds_toArray]
              try simp only [List.set_cons_succ]
              try simp only [List.set_cons_zero]
              refine wpAnyH_ready (rs := [2]) (by kernel_rfl) (by simp) ?_
              refine AllReadyH.cons rfl (fun K hK => ?_) (AllReadyH.nil)
              rw [if_pos (by rfl)]
              refine wp_store_all 35 _ _ rfl (cells := coc d) v0 rfl rfl sizeCo rfl (coc_one _) ?_
              intro u1 hn9 hk9
              replace v0 := hn9
              replace z0 := z0.kp1 hk9 (by omega)
              replace l2 := l2.off hk9 (fun p hp => by simp at hp; subst hp; exact o2q)
              replace l3 := l3.off hk9 (fun p hp => by simp at hp; subst hp; exact o3q)
              replace hB := hB.trans (hk9.below1 (by omega) hB.size)
              refine hK.out _ _ ⟨hHeld.1.kp1 hk9 (by omega), hHeld.2.kp1 hk9 (by omega)⟩ (fun hHeld => ?_)
              clear hK K hk9 hn9
              try simp only [List.getElem_toArray]
              try simp only [List.getElem_cons_succ]
              try simp only [List.getElem_cons_zero]
              try simp only [Act.put]
              try simp only [List.setIfInBounds_toArray]
              try simp only [List.set_cons_succ]
              try simp only [List.set_cons_zero]
              refine wpAnyH_ready (rs := [3]) (by kernel_rfl) (by simp) ?_
              refine AllReadyH.cons rfl (fun K hK => ?_) (AllReadyH.nil)
              rw [if_pos (by rfl)]
              refine wp_store_all 35 _ _ rfl (cells := coc d2) z0 rfl rfl sizeCo rfl (coc_one _) ?_
              intro u2 hn9 hk9
              replace z0 := hn9
              replace v0 := v0.kp1 hk9 (by omega)
              replace l2 := l2.off hk9 (fun p hp => by simp at hp; subst hp; exact o2z)
              replace l3 := l3.off hk9 (fun p hp => by simp at hp; subst hp; exact o3z)
              replace hB := hB.trans (hk9.below1 (by omega) hB.size)
              refine hK.out _ _ ⟨hHeld.1.kp1 hk9 (by omega), hHeld.2.kp1 hk9 (by omega)⟩ (fun hHeld => ?_)
              clear hK K hk9 hn9
              try simp only [List.getElem_toArray]
              try simp only [List.getElem_cons_succ]
              try simp only [List.getElem_cons_zero]
              try simp only [Act.put]
              try simp only [List.setIfInBounds_toArray]
              try simp only [List.set_cons_succ]
              try simp only [List.set_cons_zero]
              refine wpAnyH_done (by kernel_rfl) ?_ _
              clear hHeld
              rw [← hd.out] at v0
              rw [← hd2.out] at z0
              go_wp2_with fail
              exact ⟨⟨i + 1, S.c, S.L, a2, k2, Q.L, a3, k3, by omega, by omega, by go_num, HJ, v0, z0, l2.mono (Nat.zero_le _), l3.mono (Nat.zero_le _), hB⟩, by simp [intOf]; omega⟩
        · have j2 : ¬ (i : Int) < 60 := by omega
          clear lk lb HI v0 z0
          go_wp2_with fail
          go_ret
          exact ⟨rfl, hB⟩
      · have j0 : ¬ (i : Int) < (N : Int) := by omega
        clear lk lb HI v0 z0
        go_wp2_with fail
        go_ret
        exact ⟨rfl, hB⟩

set_option maxRecDepth 100000 in
theorem lifted (os : Go.Os) (started : os.Started) (H : Type) (enc : TypeId × Value → H) :
    ReturnsInHanded {} Try.checked os 6 .any (Rows.coreBlindSpec.pre6 enc Try.prog Try.f6 Rows.coreBlindRow.domain false) (Rows.coreBlindSpec.post enc Try.prog Try.f6 false true false false) := by
  refine returnsInHanded_of_change_sized (C := Try.checked) own started (by kernel_rfl) Try.func6
    (ChangeSpec.witness6 (enc := enc) (C := Try.checked) false ⟨#[], #[.int .i64 0, .slice none 0 0, .slice none 0 0], []⟩ 8 (by kernel_rfl) (by kernel_rfl) (by kernel_rfl) (by kernel_rfl)) ?_
  intro W base args ds gs before hval0 hW hcnd hsz0 _
  have hval : ∀ (j : Nat) t v, Try.f6.params[j]? = some t → args[j]? = some v → Value.okWide Try.prog W .any base t v := hval0
  have hsz : (DataW.weightsEach Try.prog (Try.f6.params.toList ++ Rows.coreBlindSpec.plain.varTypes Try.prog) (ds ++ gs)).all (· ≤ reachBytes) = true := hsz0
  have hW' := hW
  obtain ⟨p, q, hA0, hV, rfl, hfz, hnd⟩ := hW
  have hA : DataW.TrodAll enc Try.prog W 0 (fun _ => true) true Try.f6.params.toList args.toList ds p := hA0
  rw [Try.params6] at hA hval hsz

  obtain ⟨v0, vs0, d0, ds0, p0, q0, hargs, rfl, rfl, h0, r0⟩ := trodAll_cons hA
  obtain ⟨v1, vs1, d1, ds1, p1, q1, rfl, rfl, rfl, h1, r1⟩ := trodAll_cons r0
  obtain ⟨v2, vs2, d2, ds2, p2, q2, rfl, rfl, rfl, h2, r2⟩ := trodAll_cons r1
  obtain ⟨rfl, rfl, rfl⟩ := trodAll_nil r2
  obtain rfl : args = #[v0, v1, v2] := by cases args; simp_all
  obtain ⟨rfl, rfl⟩ := trodVars_none hV
  obtain ⟨a0, rfl, rfl, rfl, w0⟩ := open_int Try.underlying3 (hval 0 3 v0 rfl rfl) h0
  obtain ⟨la1, L1, lc1, rfl, lm1, hS1⟩ := open_evs (okWide_slice Try.underlying57 (hval 1 57 v1 rfl rfl)) h1
  obtain ⟨la2, L2, lc2, rfl, lm2, hS2⟩ := open_frs (okWide_slice Try.underlying68 (hval 2 68 v2 rfl rfl)) h2
  have hA2 := hA0
  clear hA0 hval0 hsz0
  simp only [List.append_nil] at hW'
  refine (walk a0 w0 la1 L1 lc1 lm1 la2 L2 lc2 lm2 W hS1 hS2).mono fun e W' ⟨he, bel⟩ => ?_
  subst he
  exact ⟨_, rfl, _, _, _, [], _, [], hW', trodAll_mk1 (shut_bool Try.underlying4 _), (stays_all laidOut bel (by kernel_rfl) hA2), rfl, bel.frame _, fun h => by cases h⟩

theorem over : Rows.coreBlindRow.holds Try.pinned (OpenSpec.ofChange Rows.coreBlindSpec) :=
  OpenClaim.holds_of_wide 6 Try.f6 rfl rfl rfl rfl rfl rfl rfl ⟨rfl, rfl, rfl, rfl, rfl⟩ rfl rfl rfl rfl rfl (by kernel_rfl) Try.func6 (by kernel_rfl)
    (of_decide_eq_true (by kernel_rfl)) (by unfold Func.isWrapper; first | (rw [if_pos (by decide +kernel)]; kernel_rfl) | (rw [if_neg (by decide +kernel)]; exact ⟨rfl, rfl⟩))
    (fun os started H enc _ => lifted os started H enc)

end Go.Proofs.Ythgmecgknhphmaa.coreBlind
namespace Go.Proofs.Ythgmecgknhphmaa

theorem coreBlind_holds : Rows.CoreBlindSaid := coreBlind.over
#print axioms coreBlind_holds

end Go.Proofs.Ythgmecgknhphmaa
