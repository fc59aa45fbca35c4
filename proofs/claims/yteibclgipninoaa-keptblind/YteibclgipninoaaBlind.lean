/-
  What stands in a frame is of no moment for whether it is taken, and for what is kept: the law KeptBlind returns true for every input.
  No condition beyond the form's own.
-/
import Derived.Test.YteibclgipninoaaRows
import Derived.Test.YteibclgipninoaaKtN
import Derived.Test.YteibclgipninoaaKtI
import Derived.WalkKit
import Derived.ProofKit
import Derived.OpenShut
import Derived.ShutString
import Derived.SizedLaws
import Derived.ChangeOld
import Derived.Below
namespace Go.Proofs.Yteibclgipninoaa.keptBlind
open Go.Sort Go.ChangeShapes Go.WideShapes Go.ChangeAt Go.RowKit
open Go.ChangeMaps (open_string shut_string)
set_option linter.unusedVariables false
set_option maxRecDepth 10000

theorem own : ownKnob Try.prog.godebug = none := by kernel_rfl
theorem length_bytes (s : ByteArray) : s.data.toList.length = s.size := by rw [Array.length_toList]; rfl

def upTo (j : Nat) : Nat → Nat := fun i => if i < j then 4294967295 else 0
def all32 : Nat → Nat := fun _ => 4294967295
theorem up_all : mbc (upTo 8) = mbc all32 := mbc_ext fun i h => if_pos h
theorem up_set (j : Nat) (h : j < 8) : (mbc (upTo j)).setIfInBounds j (.int .u32 4294967295) = mbc (upTo (j + 1)) := by
  have e := mbc_set (upTo j) j 4294967295 h
  rw [show ((4294967295 : Nat) : Int) = 4294967295 from rfl] at e
  rw [e]
  apply mbc_ext
  intro i hi
  unfold upTo
  by_cases h1 : i = j
  · simp [h1]
  · by_cases h2 : i < j
    · simp [h1, h2, show i < j + 1 by omega]
    · simp [h1, h2, show ¬ i < j + 1 by omega]

set_option maxHeartbeats 8000000 in
theorem walk (la : Option Addr) (L : List Kt) (lk : Nat) (c m : Nat → Nat) (hz : L.length * 352 ≤ 140737488351232) (hc : ∀ i, c i < 4294967296) (p : Pk) (f : Nat → En) (w : World) (lS : Li Kt.vals 0 la L w) :
    Calls Try.prog 7 #[.agg (wsc (.slice la L.length lk) c m), .agg (pkc p), .agg (frc f)] w fun e w' => e = .returned (.bool true) ∧ Below w.heap.size w w' := by
  have pO := offer_ok L la lk c m all32 p hc hz
  have pQ := offer_ok L la lk c m all32 (pqf p f) hc hz
  have HB : Hid (Bld f (offO m all32 p ⟨L, c, []⟩) (offO m all32 (pqf p f) ⟨L, c, []⟩)) := blind_ok L c m all32 p f
  have l1 := offO_len m all32 p ⟨L, c, []⟩
  have l2 := offO_tlen m all32 p ⟨L, c, []⟩
  replace l1 : (offO m all32 p ⟨L, c, []⟩).L.length ≤ L.length + 3 := l1
  replace l2 : (offO m all32 p ⟨L, c, []⟩).t.length ≤ 0 + 3 := l2
  unfold Offered at pO pQ
  generalize offO m all32 p ⟨L, c, []⟩ = S at pO HB l1 l2
  generalize offO m all32 (pqf p f) ⟨L, c, []⟩ = Q at pQ HB
  have hn := likes_len _ _ HB.out.hL
  have ht := likes_len _ _ HB.out.ht
  obtain ⟨nl, hnl⟩ : ∃ nl, S.L.length = nl := ⟨_, rfl⟩
  obtain ⟨nt, hnt⟩ : ∃ nt, S.t.length = nt := ⟨_, rfl⟩
  rw [← HB.out.hc, ← hn, ← ht, hnl, hnt] at pQ
  rw [hnl, hnt] at pO
  rw [hnl] at l1
  rw [hnt] at l2
  have HN : Hid (S.L.length = nl) := hnl
  have HN' : Hid (Q.L.length = nl) := hn.symm.trans hnl
  have HT : Hid (S.t.length = nt) := hnt
  have HT' : Hid (Q.t.length = nt) := ht.symm.trans hnt
  have n1 : ((nl : Int) != (nl : Int)) = false := by simp
  have n2 : ((nt : Int) != (nt : Int)) = false := by simp
  have e1 := neqCt S.c S.c true (mbSame_self S.c)
  clear hn ht hnl hnt
  obtain ⟨a0, a1, a2, a3, hB⟩ := four_blk (T0 := 28) (T1 := 49) (T2 := 34) (T3 := 25) (C0 := (wsc (.slice la L.length lk) c m)) (C1 := pkc p) (C2 := frc f) (C3 := mbc noMb) (w := w) rfl
  go_enter Try.func7, Try.ntmps7
  go_upto_region 2 with (first | refine build_zero builtCt rfl rfl ?_ | refine alloc_zero zeroCt rfl rfl ?_ | refine store_new rfl 25 _ _ rfl (cells := mbc noMb) rfl rfl sizeCt rfl (mbc_one _) ?_)
  try simp only [Act.put]
  try simp only [alloc_size]
  generalize (((w.alloc (Obj.cells (wsc (.slice la L.length lk) c m) 28)).alloc (Obj.cells (pkc p) 49)).alloc (Obj.cells (frc f) 34)).alloc (Obj.cells (mbc noMb) 25) = W at a0 a1 a2 a3 hB ⊢
  go_wp2_with fail
  go_loopw [8] (fun iv wx => ∃ j : Nat, j ≤ 8 ∧ iv = .int .i64 j ∧ Blk w.heap.size (wsc (.slice la L.length lk) c m) 28 wx ∧ Blk (w.heap.size + 1) (pkc p) 49 wx ∧ Blk (w.heap.size + 1 + 1) (frc f) 34 wx ∧ Blk (w.heap.size + 1 + 1 + 1) (mbc (upTo j)) 25 wx ∧ Below w.heap.size w wx) (fun iv _ => 8 - (intOf iv).toNat)
  case atStart => exact ⟨0, by omega, rfl, a0, a1, a2, a3, hB⟩
  case round =>
    clear a0 a1 a2 a3 hB
    obtain ⟨j, hj, rfl, a0, a1, a2, a3, hB⟩ := hrel
    rename World => wx
    by_cases hj8 : j < 8
    · have j0 : (j : Int) < 8 := by omega
      have j1 : (0 : Int) ≤ (j : Int) := by omega
      have hst := up_set j hj8
      go_wp2_with (refine store_one rfl 23 _ _ rfl (off := j) (.int .u32 4294967295) a3 rfl rfl rfl rfl sizeU32 (by rw [mbc_size]; omega) ?_; intro w2 b2 k2; rw [hst] at b2)
      exact ⟨⟨j + 1, by omega, by go_num, a0.kp1 k2 (by omega), a1.kp1 k2 (by omega), a2.kp1 k2 (by omega), b2, hB.trans (k2.below1 (by omega) hB.size)⟩, by simp [intOf]; omega⟩
    · obtain rfl : j = 8 := by omega
      rw [up_all] at a3
      have a4 := blk_new wx (pkc p) 49
      have hb := below_box wx (.cells (pkc p) 49)
      have s3 := a3.lt
      go_upto_region 7 with (first | refine load_blk rfl 49 _ rfl a1 rfl Try.underlying49 rfl sizePk ?_ | refine alloc_zero zeroPk rfl rfl ?_ | refine store_new rfl 49 _ _ rfl (cells := pkc p) rfl rfl sizePk rfl (pkc_one _) ?_)
      try simp only [Act.put]
      generalize wx.alloc (Obj.cells (pkc p) 49) = V6 at a4 hb ⊢
      replace a0 := a0.below hb
      replace a1 := a1.below hb
      replace a2 := a2.below hb
      replace a3 := a3.below hb
      replace hB := hB.trans (hb.mono hB.size)
      clear hb
      generalize wx.heap.size = p9 at *
      go_upto_region 10 with (first | refine load_blk rfl 34 _ rfl a2 rfl Try.underlying34 rfl sizeFr ?_ | (refine store_part rfl 34 _ _ rfl (off := 35) (cells := frc f) a4 rfl rfl sizeFr (by rw [pkc_size, frc_size]; omega) (frc_one _) ?_; intro u7 b7 k7; rw [set_f0] at b7; have a27 := a2.kp1 k7 (by omega)) | refine load_blk rfl 34 _ rfl a27 rfl Try.underlying34 rfl sizeFr ?_ | (refine store_part rfl 34 _ _ rfl (off := 71) (cells := frc f) b7 rfl rfl sizeFr (by rw [pkc_size, frc_size]; omega) (frc_one _) ?_; intro u8 b8 k8; rw [set_f1] at b8; have a28 := a27.kp1 k8 (by omega)) | refine load_blk rfl 34 _ rfl a28 rfl Try.underlying34 rfl sizeFr ?_ | (refine store_part rfl 34 _ _ rfl (off := 109) (cells := frc f) b8 rfl rfl sizeFr (by rw [pkc_size, frc_size]; omega) (frc_one _) ?_; intro V9 b9 k9; rw [set_f2] at b9))
      try simp only [Act.put]
      replace a0 := ((a0.kp1 k7 (by omega)).kp1 k8 (by omega)).kp1 k9 (by omega)
      replace a1 := ((a1.kp1 k7 (by omega)).kp1 k8 (by omega)).kp1 k9 (by omega)
      replace a2 := a28.kp1 k9 (by omega)
      replace a3 := ((a3.kp1 k7 (by omega)).kp1 k8 (by omega)).kp1 k9 (by omega)
      replace a4 : Blk p9 (pkc (pqf p f)) 49 V9 := b9
      replace hB := hB.trans (k7.below1 (by omega) hB.size)
      replace hB := hB.trans (k8.below1 (by omega) hB.size)
      replace hB := hB.trans (k9.below1 (by omega) hB.size)
      clear k7 k8 k9 a27 a28 b7 b8 b9
      have c0 : V9.cell? ⟨w.heap.size, 0, none⟩ = some (.slice la L.length lk) := a0.cell 0 _ rfl
      go_wp2_with (first | refine load_part rfl 25 _ rfl (o := 1) a0 rfl (row8 c) (wsc_c _ _ _) Try.underlying25 rfl sizeCt ?_ | refine load_part rfl 26 _ rfl (o := 9) a0 rfl (row8 m) (wsc_m _ _ _) Try.underlying26 rfl sizeMb ?_ | refine load_blk rfl 49 _ rfl a1 rfl Try.underlying49 rfl sizePk ?_ | refine load_blk rfl 25 _ rfl a3 rfl Try.underlying25 rfl sizeCt ?_)
      refine (pO _ (lS.below hB)).mono ?_
      rintro r w1 ⟨⟨ra, rk, rb, rj, rfl, rl, rt⟩, hb⟩
      replace a0 := a0.below hb
      replace a1 := a1.below hb
      replace a2 := a2.below hb
      replace a3 := a3.below hb
      replace a4 := a4.below hb
      replace hB := hB.trans (hb.mono hB.size)
      clear hb
      clear c0 pO
      have hb := below_box w1 (.cells (mbc S.c) 25)
      have d1 := blk_new w1 (mbc S.c) 25
      go_upto_region 11 with (first | refine alloc_zero zeroCt rfl rfl ?_ | refine store_new rfl 25 _ _ rfl (cells := (mbc S.c)) rfl rfl sizeCt rfl (mbc_one _) ?_)
      try simp only [Act.put]
      generalize w1.alloc (Obj.cells (mbc S.c) 25) = V1 at d1 hb ⊢
      replace a0 := a0.below hb
      replace a1 := a1.below hb
      replace a2 := a2.below hb
      replace a3 := a3.below hb
      replace a4 := a4.below hb
      replace rl := rl.below hb
      replace rt := rt.below hb
      replace hB := hB.trans (hb.mono hB.size)
      clear hb
      have c0 : V1.cell? ⟨w.heap.size, 0, none⟩ = some (.slice la L.length lk) := a0.cell 0 _ rfl
      go_wp2_with (first | refine load_part rfl 25 _ rfl (o := 1) a0 rfl (row8 c) (wsc_c _ _ _) Try.underlying25 rfl sizeCt ?_ | refine load_part rfl 26 _ rfl (o := 9) a0 rfl (row8 m) (wsc_m _ _ _) Try.underlying26 rfl sizeMb ?_ | refine load_blk rfl 49 _ rfl a4 rfl Try.underlying49 rfl sizePk ?_ | refine load_blk rfl 25 _ rfl a3 rfl Try.underlying25 rfl sizeCt ?_)
      refine (pQ _ (lS.below hB)).mono ?_
      rintro r w2 ⟨⟨qa, qk, qb, qj, rfl, ql, qt⟩, hb⟩
      replace a0 := a0.below hb
      replace a1 := a1.below hb
      replace a2 := a2.below hb
      replace a3 := a3.below hb
      replace a4 := a4.below hb
      replace rl := rl.below hb
      replace rt := rt.below hb
      replace d1 := d1.below hb
      replace hB := hB.trans (hb.mono hB.size)
      clear hb
      clear c0 pQ
      have hb := below_box w2 (.cells (mbc S.c) 25)
      have d2 := blk_new w2 (mbc S.c) 25
      go_upto_region 12 with (first | refine alloc_zero zeroCt rfl rfl ?_ | refine store_new rfl 25 _ _ rfl (cells := (mbc S.c)) rfl rfl sizeCt rfl (mbc_one _) ?_)
      try simp only [Act.put]
      generalize w2.alloc (Obj.cells (mbc S.c) 25) = V2 at d2 hb ⊢
      replace a0 := a0.below hb
      replace a1 := a1.below hb
      replace a2 := a2.below hb
      replace a3 := a3.below hb
      replace a4 := a4.below hb
      replace rl := rl.below hb
      replace rt := rt.below hb
      replace d1 := d1.below hb
      replace ql := ql.below hb
      replace qt := qt.below hb
      replace hB := hB.trans (hb.mono hB.size)
      clear hb
      clear a0 a1 a3 a4 lS
      go_wp2_with fail
      refine (fixed_ok _).mono ?_
      rintro r w3 ⟨rfl, hb⟩
      replace a2 := a2.below hb
      replace rl := rl.below hb
      replace rt := rt.below hb
      replace d1 := d1.below hb
      replace ql := ql.below hb
      replace qt := qt.below hb
      replace d2 := d2.below hb
      replace hB := hB.trans (hb.mono hB.size)
      clear hb
      go_wp2_with (first | refine load_want rfl 25 _ rfl d1 rfl Try.underlying25 rfl sizeCt ?_ | refine load_want rfl 25 _ rfl d2 rfl Try.underlying25 rfl sizeCt ?_)
      clear d1 d2
      go_loopw [16] (fun iv wr => ∃ j : Nat, j ≤ nl ∧ iv = .int .i64 j ∧ Li Kt.vals 0 ra S.L wr ∧ Li Kt.vals 0 qa Q.L wr ∧ Li Kt.vals 0 rb S.t wr ∧ Li Kt.vals 0 qb Q.t wr ∧ Blk (w.heap.size + 1 + 1) (frc f) 34 wr ∧ Below w.heap.size w wr) (fun iv _ => nl - (intOf iv).toNat)
      case atStart => exact ⟨0, by omega, rfl, rl, ql, rt, qt, a2, hB⟩
      case round =>
        clear rl ql rt qt a2 hB
        obtain ⟨j, hj, rfl, rl, ql, rt, qt, a2, hB⟩ := hrel
        by_cases hjn : j < nl
        · have j0 : (j : Int) < (nl : Int) := by omega
          have j1 : (0 : Int) ≤ (j : Int) := by omega
          obtain ⟨x, hx⟩ : ∃ x, S.L[j]? = some x := ⟨_, List.getElem?_eq_getElem (by rw [HN.out]; exact hjn)⟩
          obtain ⟨y, hy⟩ : ∃ y, Q.L[j]? = some y := ⟨_, List.getElem?_eq_getElem (by rw [HN'.out]; exact hjn)⟩
          have hlk := likes_at _ _ HB.out.hL j x y hx hy
          obtain ⟨b, o, rfl, _, _, hr⟩ := rl.at Kt.vals_length j x hx
          obtain ⟨b', o', rfl, _, _, hr'⟩ := ql.at Kt.vals_length j y hy
          have q0 : ∀ d' os, (grow (redrawn wr d') os).cell? ⟨b, o + j * 38, none⟩ = some (.int .i64 x.fr) := cell_regrown (by have := hr 0 _ rfl; simpa using this)
          have q1 : ∀ d' os, (grow (redrawn wr d') os).cell? ⟨b, o + j * 38 + 1, none⟩ = some (.int .u32 (x.rd : Int)) := cell_regrown (hr 1 _ rfl)
          have q2 : ∀ d' os, (grow (redrawn wr d') os).cell? ⟨b', o' + j * 38, none⟩ = some (.int .i64 x.fr) := cell_regrown (by have := hr' 0 _ rfl; rw [hlk.1]; simpa using this)
          have q3 : ∀ d' os, (grow (redrawn wr d') os).cell? ⟨b', o' + j * 38 + 1, none⟩ = some (.int .u32 (x.rd : Int)) := cell_regrown (by have := hr' 1 _ rfl; rw [hlk.2]; exact this)
          have g0 : (x.fr != x.fr) = false := by simp
          have g1 : ((x.rd : Int) != (x.rd : Int)) = false := by simp
          clear hx hy hlk hr hr'
          go_upto_region 17 with fail
          try simp only [Act.put]
          refine wp_region_quiet_below (by kernel_rfl) (by kernel_rfl) ?_
          repeat (first
            | go_big_quiet_step (fail))
          refine wpQuiet_nil ?_
          intro _ hw'
          obtain ⟨⟨dq, osq⟩, hw''⟩ := hw'
          have hb := below_regrown wr dq osq
          subst hw''
          generalize grow (redrawn wr dq) osq = u1 at hb ⊢
          replace rl := rl.below hb
          replace ql := ql.below hb
          replace rt := rt.below hb
          replace qt := qt.below hb
          replace a2 := a2.below hb
          replace hB := hB.trans (hb.mono hB.size)
          clear hb
          clear q0 q1 q2 q3 g0 g1
          go_wp2_with fail
          exact ⟨⟨j + 1, by omega, by go_num, rl, ql, rt, qt, a2, hB⟩, by simp [intOf]; omega⟩
        · obtain rfl : j = nl := by omega
          clear rl ql
          go_wp2_with fail
          go_loopw [17] (fun iv wx => ∃ i : Nat, i ≤ nt ∧ iv = .int .i64 i ∧ Li Kt.vals 0 rb S.t wx ∧ Li Kt.vals 0 qb Q.t wx ∧ Blk (w.heap.size + 1 + 1) (frc f) 34 wx ∧ Below w.heap.size w wx) (fun iv _ => nt - (intOf iv).toNat)
          case atStart => exact ⟨0, by omega, rfl, rt, qt, a2, hB⟩
          case round =>
            clear rt qt a2 hB
            obtain ⟨i, hi, rfl, rt, qt, a2, hB⟩ := hrel
            rename World => ws
            by_cases hin : i < nt
            · have i0 : (i : Int) < (nt : Int) := by omega
              have i1 : (0 : Int) ≤ (i : Int) := by omega
              obtain ⟨x, hx⟩ : ∃ x, S.t[i]? = some x := ⟨_, List.getElem?_eq_getElem (by rw [HT.out]; exact hin)⟩
              obtain ⟨y, hy⟩ : ∃ y, Q.t[i]? = some y := ⟨_, List.getElem?_eq_getElem (by rw [HT'.out]; exact hin)⟩
              have hlk := likes_at _ _ HB.out.ht i x y hx hy
              have hyf := HB.out.hf y (List.mem_of_getElem? hy)
              obtain ⟨b, o, rfl, _, _, hr⟩ := rt.at Kt.vals_length i x hx
              obtain ⟨b', o', rfl, _, hbl', hr'⟩ := qt.at Kt.vals_length i y hy
              have hrf := y.frame_range hr'
              rw [hyf] at hrf
              have q0 : ∀ d' os, (grow (redrawn ws d') os).cell? ⟨b, o + i * 38, none⟩ = some (.int .i64 x.fr) := cell_regrown (by have := hr 0 _ rfl; simpa using this)
              have q1 : ∀ d' os, (grow (redrawn ws d') os).cell? ⟨b, o + i * 38 + 1, none⟩ = some (.int .u32 (x.rd : Int)) := cell_regrown (hr 1 _ rfl)
              have q2 : ∀ d' os, (grow (redrawn ws d') os).cell? ⟨b', o' + i * 38, none⟩ = some (.int .i64 x.fr) := cell_regrown (by have := hr' 0 _ rfl; rw [hlk.1]; simpa using this)
              have q3 : ∀ d' os, (grow (redrawn ws d') os).cell? ⟨b', o' + i * 38 + 1, none⟩ = some (.int .u32 (x.rd : Int)) := cell_regrown (by have := hr' 1 _ rfl; rw [hlk.2]; exact this)
              have g0 : (x.fr != x.fr) = false := by simp
              have g1 : ((x.rd : Int) != (x.rd : Int)) = false := by simp
              have la : ∀ w', (∃ p : Regrown, w' = grow (redrawn ws p.d) p.os) → w'.rangeAt b' (o' + i * 38 + 2) (frv f) := fun w' ⟨p, e⟩ => e ▸ range_block hrf ((below_regrown ws p.d p.os).block b' hbl')
              have lf := a2.regrown
              have kF : ∀ w, (binOp .neq 34 (.agg (frv f).toArray) (.agg (frc f))).run Try.prog w = .ok (.bool false) w := neqFr f
              clear hx hy hlk hyf hr hr' hrf hbl'
              go_upto_region 22 with fail
              try simp only [Act.put]
              refine wp_region_quiet_below (by kernel_rfl) (by kernel_rfl) ?_
              repeat (first
                | (go_big_quiet_want; refine quiet_range (off := o' + i * 38 + 2) rfl rfl la Try.underlying34 rfl sizeFr ?_; simp only [Act.put, List.setIfInBounds_toArray, List.set_cons_zero, List.set_cons_succ]; go_big_quiet_on)
                | (go_big_quiet_want; refine quiet_load rfl rfl lf Try.underlying34 rfl sizeFr ?_; simp only [Act.put, List.setIfInBounds_toArray, List.set_cons_zero, List.set_cons_succ]; go_big_quiet_on)
                | go_big_quiet_step (fail))
              refine wpQuiet_nil ?_
              intro _ hw'
              obtain ⟨⟨dq, osq⟩, hw''⟩ := hw'
              have hb := below_regrown ws dq osq
              subst hw''
              generalize grow (redrawn ws dq) osq = u1 at hb ⊢
              replace rt := rt.below hb
              replace qt := qt.below hb
              replace a2 := a2.below hb
              replace hB := hB.trans (hb.mono hB.size)
              clear hb
              clear q0 q1 q2 q3 g0 g1 la lf kF
              go_wp2_with fail
              exact ⟨⟨i + 1, by omega, by go_num, rt, qt, a2, hB⟩, by simp [intOf]; omega⟩
            · obtain rfl : i = nt := by omega
              clear rt qt a2
              go_wp2_with fail
              go_ret
              exact ⟨rfl, hB⟩

set_option maxRecDepth 100000 in
theorem lifted (os : Go.Os) (started : os.Started) (H : Type) (enc : TypeId × Value → H) :
    ReturnsInHanded {} Try.checked os 7 .any (Rows.keptBlindSpec.pre6 enc Try.prog Try.f7 Rows.keptBlindRow.domain false) (Rows.keptBlindSpec.post enc Try.prog Try.f7 false true false false) := by
  refine returnsInHanded_of_change_sized (C := Try.checked) own started (by kernel_rfl) Try.func7
    (ChangeSpec.witness6 (enc := enc) (C := Try.checked) false ⟨#[], #[.agg (wsc (.slice none 0 0) noMb noMb), .agg (pkc Pk.zero), .agg (frc noFr)], []⟩ 8 (by kernel_rfl) (by kernel_rfl) (by kernel_rfl) (by kernel_rfl)) ?_
  intro W base args ds gs before hval0 hW hcnd hsz0 _
  have hval : ∀ (j : Nat) t v, Try.f7.params[j]? = some t → args[j]? = some v → Value.okWide Try.prog W .any base t v := hval0
  have hsz : (DataW.weightsEach Try.prog (Try.f7.params.toList ++ Rows.keptBlindSpec.plain.varTypes Try.prog) (ds ++ gs)).all (· ≤ reachBytes) = true := hsz0
  have hW' := hW
  obtain ⟨p, q, hA0, hV, rfl, hfz, hnd⟩ := hW
  have hA : DataW.TrodAll enc Try.prog W 0 (fun _ => true) true Try.f7.params.toList args.toList ds p := hA0
  rw [Try.params7] at hA hval hsz

  obtain ⟨v0, vs0, d0, ds0, p0, q0, hargs, rfl, rfl, h0, r0⟩ := trodAll_cons hA
  obtain ⟨v1, vs1, d1, ds1, p1, q1, rfl, rfl, rfl, h1, r1⟩ := trodAll_cons r0
  obtain ⟨v2, vs2, d2, ds2, p2, q2, rfl, rfl, rfl, h2, r2⟩ := trodAll_cons r1
  obtain ⟨rfl, rfl, rfl⟩ := trodAll_nil r2
  obtain rfl : args = #[v0, v1, v2] := by cases args; simp_all
  obtain ⟨rfl, rfl⟩ := trodVars_none hV
  obtain ⟨la0, L0, lk0, c0, m0, rfl, lz0, kc0, hS0⟩ := open_was (by obtain ⟨cs, h1, _⟩ := okWide_struct Try.underlying28 (hval 0 28 v0 rfl rfl); exact ⟨cs, h1⟩) (fun n hn => of_decide_eq_true (List.all_eq_true.1 hsz _ (DataW.weights_mem_each (j := 0) rfl rfl n hn))) h0
  obtain ⟨p1_, rfl⟩ := open_packet (by obtain ⟨cs, h1, _⟩ := okWide_struct Try.underlying49 (hval 1 49 v1 rfl rfl); exact ⟨cs, h1⟩) h1
  obtain ⟨f2, rfl⟩ := open_fr (by obtain ⟨cs, h1, _⟩ := (by simpa only [Value.okWide, Try.underlying34] using hval 2 34 v2 rfl rfl : ∃ cs, v2 = .agg cs ∧ _); exact ⟨cs, h1⟩) h2
  have hA2 := hA0
  clear hA0 hval0 hsz0
  simp only [List.append_nil] at hW'
  refine (walk la0 L0 lk0 c0 m0 lz0 kc0 p1_ f2 W hS0).mono fun e W' ⟨he, bel⟩ => ?_
  subst he
  exact ⟨_, rfl, _, _, _, [], _, [], hW', trodAll_mk1 (shut_bool Try.underlying4 _), (stays_all laidOut bel (by kernel_rfl) hA2), rfl, bel.frame _, fun h => by cases h⟩

theorem over : Rows.keptBlindRow.holds Try.pinned (OpenSpec.ofChange Rows.keptBlindSpec) :=
  OpenClaim.holds_of_wide 7 Try.f7 rfl rfl rfl rfl rfl rfl rfl ⟨rfl, rfl, rfl, rfl, rfl⟩ rfl rfl rfl rfl rfl (by kernel_rfl) Try.func7 (by kernel_rfl)
    (of_decide_eq_true (by kernel_rfl)) (by unfold Func.isWrapper; first | (rw [if_pos (by decide +kernel)]; kernel_rfl) | (rw [if_neg (by decide +kernel)]; exact ⟨rfl, rfl⟩))
    (fun os started H enc _ => lifted os started H enc)

end Go.Proofs.Yteibclgipninoaa.keptBlind
namespace Go.Proofs.Yteibclgipninoaa

theorem keptBlind_holds : Rows.KeptBlindSaid := keptBlind.over
#print axioms keptBlind_holds

end Go.Proofs.Yteibclgipninoaa
