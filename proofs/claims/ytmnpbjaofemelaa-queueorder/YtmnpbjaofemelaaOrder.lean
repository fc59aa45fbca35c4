/-
  As frames come, each daemon's in order, and at last a flush: each entry is delivered once, and those that are ordered in the order of their places: the law QueueOrder returns true for every input.
  No condition beyond the form's own.
-/
import Derived.Test.YtmnpbjaofemelaaRows
import Derived.Test.YtmnpbjaofemelaaQuJ
import Derived.WalkKit
import Derived.ProofKit
import Derived.OpenShut
import Derived.ShutString
import Derived.SizedLaws
import Derived.ChangeOld
import Derived.Below
namespace Go.Proofs.Ytmnpbjaofemelaa.queueOrder
open Go.Sort Go.ChangeShapes Go.WideShapes Go.ChangeAt Go.RowKit
open Go.ChangeMaps (open_string shut_string)
set_option linter.unusedVariables false
set_option maxRecDepth 10000

theorem own : ownKnob Try.prog.godebug = none := by kernel_rfl
theorem length_bytes (s : ByteArray) : s.data.toList.length = s.size := by rw [Array.length_toList]; rfl

theorem sizePy : (Try.prog.info? 50).map (·.size) = some 9 := by kernel_rfl
theorem pyc_all (m : Nat → Nat) (v : Value) : ((pyc m v).extract 0 (0 + (row8 m ++ [v]).length)).toList = row8 m ++ [v] := by kernel_rfl
theorem pl_put (a b : Pl) : putAt a.arr 0 b.arr.toList = b.arr := by kernel_rfl
set_option maxHeartbeats 16000000 in
theorem walk (m : Nat → Nat) (la : Option Addr) (L : List Fm) (lc : Nat) (lz : L.length * 40 ≤ 140737488351232) (lk : L.length ≤ lc) (lm : lc ≤ maxLen) (w : World) (hls : ∀ x ∈ L, x.ok w) (hS : Li Fm.vals 0 la L w) : Calls Try.prog 5 #[.agg (pyc m (.slice la L.length lc))] w fun e w' => e = .returned (.bool true) ∧ Below w.heap.size w w' := by
  obtain ⟨n, hn⟩ : ∃ n, Hid (L.length = n) := ⟨_, rfl⟩
  have hO : Hid (∀ v, Below w.heap.size w v → ∀ x ∈ L, x.ok v) := fun v hv x hx => by
    have h := hls x hx
    exact ⟨h.hf, h.hr, h.hb, h.hl, h.hc, h.hS.below hv⟩
  have hX := hS
  have h63 : L.length ≤ 9223372036854775807 := by omega
  have hrunok : ∀ s, RunF m L (min L.length 60) s → RunOk m (min L.length 60) s := fun s h => run_ok (Nat.min_le_right _ _) h
  have pD : ∀ v, Li Fm.vals 0 la L v → (∀ x ∈ L, x.ok v) → Calls Try.prog 18 #[.agg (pyc m (.slice la n lc))] v fun e w' => (∃ (s : Sq) (D : List Wt) (nd : Nat) (a : Option Addr) (c : Nat), RunF m L (min L.length 60) s ∧ Hid (s.out ++ s.q = D) ∧ Hid (D.length = nd) ∧ e = .returned (.slice a nd c) ∧ nd ≤ c ∧ Li Wt.vals 0 a D w') ∧ Below v.heap.size v w' := fun v h1 h2 => by
    have h := deliv_ok m L la lc h63 v h2 h1
    rw [hn.out] at h ⊢
    refine h.mono ?_
    rintro e w' ⟨s, k1, ⟨a, c, k2, k3, k4⟩, k5⟩
    exact ⟨⟨s, _, _, a, c, k1, rfl, rfl, k2, k3, k4⟩, k5⟩
  have pA : ∀ v, Li Fm.vals 0 la L v → (∀ x ∈ L, x.ok v) → Calls Try.prog 19 #[.agg (pyc m (.slice la n lc))] v fun e w' => (∃ (s : Sq) (A : List Wt) (na : Nat) (a : Option Addr) (c : Nat), RunF m L (min L.length 60) s ∧ Hid (s.A = A) ∧ Hid (A.length = na) ∧ e = .returned (.slice a na c) ∧ Li Wt.vals 0 a A w') ∧ Below v.heap.size v w' := fun v h1 h2 => by
    have h := all_ok22 m L la lc h63 v h2 h1
    rw [hn.out] at h ⊢
    refine h.mono ?_
    rintro e w' ⟨s, k1, ⟨a, c, k2, k4⟩, k5⟩
    exact ⟨⟨s, _, _, a, c, k1, rfl, rfl, k2, k4⟩, k5⟩
  clear hls lz lk lm hS h63
  have bp := blk_new w (pyc m (.slice la L.length lc)) 50
  have hB := below_box w (.cells (pyc m (.slice la L.length lc)) 50)
  rw [hn.out] at bp hB ⊢
  go_enter Try.func5, Try.ntmps5
  go_upto_region 1 with fail
  try simp only [Act.put]
  generalize w.alloc (Obj.cells (pyc m (.slice la n lc)) 50) = W at bp hB ⊢
  refine wp_region_held_drew (S := fun v => Below W.heap.size W v) (by kernel_rfl) ((Below.refl _ _).drew) (fun hHeld => ?_)
  refine' tkH 0 (v := _) rfl (by kernel_rfl) (fun _ _ _ h => h) (yieldsIf_load_mid (by rfl) _ _ rfl w.heap.size 0 rfl (row8 m ++ [.slice la n lc]) _ ?hS1 Try.underlying50 rfl (show _ = some (row8 m ++ [Value.slice la n lc]).length from sizePy)) hHeld ?rest1
  case hS1 => exact fun w h => ((bp.below h).range 0 (row8 m ++ [.slice la n lc]) (pyc_all m _))
  try simp only [yy]
  refine' tkH 2 (v := _) rfl (by kernel_rfl) (fun _ _ _ h => h) (yieldsIf_load_mid (by rfl) _ _ rfl w.heap.size 0 rfl (row8 m ++ [.slice la n lc]) _ ?hS2 Try.underlying50 rfl (show _ = some (row8 m ++ [Value.slice la n lc]).length from sizePy)) hHeld ?rest2
  case hS2 => exact fun w h => ((bp.below h).range 0 (row8 m ++ [.slice la n lc]) (pyc_all m _))
  try simp only [yy]
  refine rd1 1 (fun K hK => ?_)
  go_simp
  go_wp2_with (refine (pD _ (hX.below (hB.trans (hHeld.mono hB.size))) (hO.out _ (hB.trans (hHeld.mono hB.size)))).mono ?_; rintro r u1 ⟨⟨s, D, nd, da, dc, hrun, hD9, hnd, rfl, hdc, hD⟩, hb⟩)
  refine hK.out _ _ (below_next hHeld hb) (fun hHeld => ?_)
  clear hK K hb
  refine rd1 3 (fun K hK => ?_)
  go_simp
  go_wp2_with (refine (pA _ (hX.below (hB.trans (hHeld.mono hB.size))) (hO.out _ (hB.trans (hHeld.mono hB.size)))).mono ?_; rintro r u2 ⟨⟨s2, A, na, aa, ac, hrun2, hA9, hna9, rfl, hA⟩, hb⟩)
  replace hD := hD.below hb
  refine hK.out _ _ (below_next hHeld hb) (fun hHeld => ?_)
  clear hK K hb
  refine tkQ 4 hHeld ?_
  try simp only [yy]
  refine tkQ 5 hHeld ?_
  try simp only [yy]
  refine wpAnyH_done (by kernel_rfl) ?_ _
  obtain rfl := run_one hrun hrun2
  replace hB := hB.trans (hHeld.mono hB.size)
  have hok := hrunok s hrun
  have hDl := hok.J.flush
  clear hHeld bp pD pA
  obtain ⟨W1, hW1⟩ : ∃ W1, W1 = u2 := ⟨_, rfl⟩
  rw [← hW1] at hD hA hB ⊢
  clear hW1
  rw [hD9.out, hA9.out] at hDl
  have hlen : D.length = A.length := hDl.len
  have hna : Hid (A.length = nd) := hlen.symm.trans hnd.out
  obtain rfl : nd = na := hna.out.symm.trans hna9.out
  have hsm : nd ≤ 240 := by have h1 := hok.al; rw [hA9.out, hna.out] at h1; omega
  have HIN : Hid (∀ x ∈ D, hasW A x = true) := fun x hx => (hasW_iff A x).2 (hDl.ino x hx)
  have HNO : Hid (∀ i x, D[i]? = some x → hasW (D.take i) x = false) := fun i x hx => by
    cases hw : hasW (D.take i) x with
    | false => rfl
    | true =>
      exfalso
      have h1 := (hasW_iff _ _).1 hw
      obtain ⟨k, hk, hkx⟩ := List.getElem_of_mem h1
      rw [List.length_take] at hk
      rw [List.getElem_take] at hkx
      obtain ⟨hi, hix⟩ := List.getElem?_eq_some_iff.1 hx
      have h2 := List.pairwise_iff_getElem.1 hDl.nod k i (by omega) hi (by omega)
      rw [hkx, hix] at h2
      exact h2 rfl
  have HORD : Hid (∀ (k i : Nat) (y x : Wt), D[k]? = some y → D[i]? = some x → k < i → ordB y.e = true → ordB x.e = true → befB y.p x.p = true) := fun k i y x hy hx hki h1 h2 => by
    obtain ⟨hk, hky⟩ := List.getElem?_eq_some_iff.1 hy
    obtain ⟨hi, hix⟩ := List.getElem?_eq_some_iff.1 hx
    have h3 := List.pairwise_iff_getElem.1 hDl.ord k i hk hi hki
    rw [hky, hix] at h3
    exact (befB_iff _ _).2 (h3 h1 h2)
  clear hDl hlen hok hrun hrun2
  go_wp2_with fail
  refine (fixed_ok _).mono ?_
  rintro r W2 ⟨rfl, hb⟩
  replace hB := hB.trans (hb.mono hB.size)
  replace hD := hD.below hb
  replace hA := hA.below hb
  clear hb
  have e9 : ((nd : Int) != (nd : Int)) = false := by simp
  have e10 : (nd != nd) = false := by simp
  have bl := blk_new W2 Pl.zero.arr 42
  have hb := below_box W2 (.cells Pl.zero.arr 42)
  go_upto_region 5 with (first | refine build_zero builtPl rfl rfl ?_ | refine alloc_zero zeroPl rfl rfl ?_ | refine store_new rfl 42 _ _ rfl (cells := Pl.zero.arr) rfl rfl sizePl rfl (Pl.arr_one _) ?_)
  try simp only [Act.put, List.setIfInBounds_toArray, List.set_cons_zero, List.set_cons_succ]
  have hlw : w.heap.size ≤ W2.heap.size := hB.size
  replace hB := hB.trans (hb.mono hB.size)
  have HD : Hid (Li Wt.vals 0 da D W2) := hD
  have HA : Hid (Li Wt.vals 0 aa A W2) := hA
  have hC : Below W2.heap.size W2 (W2.alloc (.cells Pl.zero.arr 42)) := hb
  generalize W2.alloc (Obj.cells Pl.zero.arr 42) = W3 at bl hB hC ⊢
  clear hb hD hA e9 e10
  generalize hzl : W2.heap.size = zl at bl hlw ⊢
  have HZL : Hid (W2.heap.size = zl) := hzl
  rw [hzl] at hC
  clear hzl
  go_wp2_with fail
  go_loopw [6, 7] (fun fv iv wr => ∃ (i : Nat) (b : Bool) (lp : Pl), i ≤ nd ∧ iv = .int .i64 i ∧ fv = .bool b ∧ Hid (b = false → ∃ k y, k < i ∧ D[k]? = some y ∧ ordB y.e = true ∧ lp = y.p) ∧ Blk zl lp.arr 42 wr ∧ Below w.heap.size w wr ∧ Below zl W2 wr) (fun _ iv _ => nd - (intOf iv).toNat)
  case atStart => exact ⟨0, true, Pl.zero, by omega, rfl, rfl, fun h => (by cases h), bl, hB, hC⟩
  case round =>
    clear bl hB hC
    obtain ⟨i, b, lp, hi, rfl, rfl, HI, bl, hB, hC⟩ := hrel
    rename World => wr
    have i1 : (0 : Int) ≤ (i : Int) := by omega
    by_cases hin : i < nd
    · have i0 : (i : Int) < (nd : Int) := by omega
      have i2 : (i : Int) ≤ (dc : Int) := by omega
      obtain ⟨x, hx⟩ : ∃ q, D[i]? = some q := ⟨_, List.getElem?_eq_getElem (by rw [hnd.out]; exact hin)⟩
      have HX : Hid (D[i]? = some x) := hx
      have hD := HD.out.below (by rw [HZL.out]; exact hC)
      have hA := HA.out.below (by rw [HZL.out]; exact hC)
      have pa := fun v h => rhasw_ok x A aa ac (by rw [hna.out]; omega) v h
      have pb := fun v h => rhasw_ok x (D.take i) da dc (by rw [List.length_take]; omega) v h
      rw [HIN.out x (List.mem_of_getElem? hx), hna.out] at pa
      rw [HNO.out i x hx, show (D.take i).length = i by rw [List.length_take, hnd.out]; omega] at pb
      obtain ⟨b9, o, rfl, _, hbl, hr⟩ := hD.at Wt.vals_length i x hx
      have lxw : ∀ w', (∃ p : Regrown, w' = grow (redrawn wr p.d) p.os) → w'.rangeAt b9 (o + i * 9) x.vals := fun w' ⟨p, e⟩ => e ▸ range_block hr ((below_regrown wr p.d p.os).block b9 hbl)
      have p0 : ∀ d' os, Calls Try.prog 17 #[.slice aa nd ac, .agg x.vals.toArray] (grow (redrawn wr d') os) fun e w'' => e = .returned (.bool true) ∧ ∃ p : Regrown, w'' = grow (redrawn wr p.d) p.os := fun d' os => Calls.regrown_of (pa _ (hA.below (below_regrown wr d' os)))
      have p1 : ∀ d' os, Calls Try.prog 17 #[.slice (some ⟨b9, o, none⟩) i dc, .agg x.vals.toArray] (grow (redrawn wr d') os) fun e w'' => e = .returned (.bool false) ∧ ∃ p : Regrown, w'' = grow (redrawn wr p.d) p.os := fun d' os => Calls.regrown_of (pb _ ((hD.take Wt.vals_length i).below (below_regrown wr d' os)))
      clear hx pa pb hr hbl hA hD
      go_upto_region 9 with fail
      try simp only [Act.put, List.setIfInBounds_toArray, List.set_cons_zero, List.set_cons_succ]
      refine wp_region_quiet_below (by kernel_rfl) (by kernel_rfl) ?_
      repeat (first
        | (go_big_quiet_want; refine quiet_range (off := o + i * 9) rfl rfl lxw Try.underlying47 rfl sizeWt ?_; simp only [Act.put, List.setIfInBounds_toArray, List.set_cons_zero, List.set_cons_succ]; go_big_quiet_on)
        | go_big_quiet_step (first | with_reducible exact p0 _ _ | with_reducible exact p1 _ _))
      refine wpQuiet_nil ?_
      intro _ hw'
      obtain ⟨⟨dq, osq⟩, hw''⟩ := hw'
      have hb := below_regrown wr dq osq
      subst hw''
      generalize grow (redrawn wr dq) osq = w8 at hb ⊢
      replace hB := hB.trans (hb.mono hB.size)
      replace hC := hC.trans (hb.mono (by have h9 := hC.size; rw [HZL.out] at h9; exact h9))
      replace bl := bl.below hb
      clear hb lxw p0 p1
      obtain ⟨b8, o8, e8, _, hbl, hr⟩ := (HD.out.below (by rw [HZL.out]; exact hC)).at Wt.vals_length i x HX.out
      cases e8
      have hre := range_e hr
      have pO := rord_ok x.e
      obtain ⟨od, hod⟩ : ∃ q, ordB x.e = q := ⟨_, rfl⟩
      rw [hod] at pO
      have HOD : Hid (ordB x.e = od) := hod
      go_wp2_with (refine load_range rfl 45 _ rfl x.e.vals hre rfl Try.underlying45 rfl sizeEn ?_)
      refine (pO _).mono ?_
      rintro r w9 ⟨rfl, hb⟩
      replace hB := hB.trans (hb.mono hB.size)
      replace hC := hC.trans (hb.mono (by have h9 := hC.size; rw [HZL.out] at h9; exact h9))
      replace bl := bl.below hb
      clear hb pO hre hr hbl hod
      cases od with
      | false =>
        have HI2 : Hid (b = false → ∃ k y, k < i + 1 ∧ D[k]? = some y ∧ ordB y.e = true ∧ lp = y.p) := fun h => by
          obtain ⟨k, y, h1, h2⟩ := HI.out h
          exact ⟨k, y, by omega, h2⟩
        clear HI
        go_wp2_with fail
        exact ⟨⟨i + 1, b, lp, by omega, by go_num, rfl, HI2.out, bl, hB, hC⟩, by simp [intOf]; omega⟩
      | true =>
        have HI2 : Hid (false = false → ∃ k y, k < i + 1 ∧ D[k]? = some y ∧ ordB y.e = true ∧ x.p = y.p) := fun _ => ⟨i, x, by omega, HX.out, HOD.out, rfl⟩
        cases b with
        | true =>
          clear HI
          go_upto_region 12 with fail
          try simp only [Act.put, List.setIfInBounds_toArray, List.set_cons_zero, List.set_cons_succ]
          refine wp_region_quiet_below (by kernel_rfl) (by kernel_rfl) ?_
          repeat (first
            | go_big_quiet_step (fail))
          refine wpQuiet_nil ?_
          intro _ hw'
          obtain ⟨⟨dq, osq⟩, hw''⟩ := hw'
          have hb := below_regrown w9 dq osq
          subst hw''
          generalize grow (redrawn w9 dq) osq = wA at hb ⊢
          replace hB := hB.trans (hb.mono hB.size)
          replace hC := hC.trans (hb.mono (by have h9 := hC.size; rw [HZL.out] at h9; exact h9))
          replace bl := bl.below hb
          clear hb
          obtain ⟨b7, o7, e7, _, hbl, hr⟩ := (HD.out.below (by rw [HZL.out]; exact hC)).at Wt.vals_length i x HX.out
          cases e7
          have hrp := range_p hr
          go_wp2_with (first | refine load_range rfl 42 _ rfl x.p.vals hrp rfl Try.underlying42 rfl sizePl ?_ | (refine store_part rfl 42 _ _ rfl (off := 0) (cells := x.p.arr) bl rfl rfl sizePl (show 0 + 3 ≤ 3 by decide) (Pl.arr_one _) ?_; intro wB bl2 kB))
          have bl3 : Blk zl x.p.arr 42 wB := by rw [pl_put] at bl2; exact bl2
          have hB3 := hB.trans (kB.below1 hlw hB.size)
          have hC3 := hC.trans (kB.below1 (Nat.le_refl _) (by have h9 := hC.size; rw [HZL.out] at h9; exact h9))
          exact ⟨⟨i + 1, false, x.p, by omega, by go_num, rfl, (by have h9 := HI2.out; exact fun _ => h9 (by trivial)), bl3, hB3, hC3⟩, by simp [intOf]; omega⟩
        | false =>
          have hbf : befB lp x.p = true := by
            obtain ⟨k, y, h1, h2, h3, h4⟩ := HI.out rfl
            rw [h4]
            exact HORD.out k i y x h2 HX.out h1 h3 HOD.out
          clear HI
          obtain ⟨b8, o8, e8, _, hbl, hr⟩ := (HD.out.below (by rw [HZL.out]; exact hC)).at Wt.vals_length i x HX.out
          cases e8
          have lxp : ∀ w', (∃ p : Regrown, w' = grow (redrawn w9 p.d) p.os) → w'.rangeAt b9 (o + i * 9) x.p.vals := fun w' ⟨p, e⟩ => range_p (e ▸ range_block hr ((below_regrown w9 p.d p.os).block b9 hbl))
          have llp := bl.regrown
          have pb := rbef_ok lp x.p
          rw [hbf] at pb
          have p2 : ∀ d' os, Calls Try.prog 21 #[.agg lp.arr, .agg x.p.vals.toArray] (grow (redrawn w9 d') os) fun e w'' => e = .returned (.bool true) ∧ ∃ p : Regrown, w'' = grow (redrawn w9 p.d) p.os := fun d' os => Calls.regrown_of (pb _)
          clear pb hbf hr hbl
          go_upto_region 12 with fail
          try simp only [Act.put, List.setIfInBounds_toArray, List.set_cons_zero, List.set_cons_succ]
          refine wp_region_quiet_below (by kernel_rfl) (by kernel_rfl) ?_
          repeat (first
            | (go_big_quiet_want; refine quiet_range (off := o + i * 9) rfl rfl lxp Try.underlying42 rfl sizePl ?_; simp only [Act.put, List.setIfInBounds_toArray, List.set_cons_zero, List.set_cons_succ]; go_big_quiet_on)
            | (go_big_quiet_want; refine quiet_load rfl rfl llp Try.underlying42 rfl sizePl ?_; simp only [Act.put, List.setIfInBounds_toArray, List.set_cons_zero, List.set_cons_succ]; go_big_quiet_on)
            | go_big_quiet_step (first | with_reducible exact p2 _ _))
          refine wpQuiet_nil ?_
          intro _ hw'
          obtain ⟨⟨dq, osq⟩, hw''⟩ := hw'
          have hb := below_regrown w9 dq osq
          subst hw''
          generalize grow (redrawn w9 dq) osq = wA at hb ⊢
          clear lxp llp p2
          replace hB := hB.trans (hb.mono hB.size)
          replace hC := hC.trans (hb.mono (by have h9 := hC.size; rw [HZL.out] at h9; exact h9))
          replace bl := bl.below hb
          clear hb
          obtain ⟨b7, o7, e7, _, hbl, hr⟩ := (HD.out.below (by rw [HZL.out]; exact hC)).at Wt.vals_length i x HX.out
          cases e7
          have hrp := range_p hr
          go_wp2_with (first | refine load_range rfl 42 _ rfl x.p.vals hrp rfl Try.underlying42 rfl sizePl ?_ | (refine store_part rfl 42 _ _ rfl (off := 0) (cells := x.p.arr) bl rfl rfl sizePl (show 0 + 3 ≤ 3 by decide) (Pl.arr_one _) ?_; intro wB bl2 kB))
          have bl3 : Blk zl x.p.arr 42 wB := by rw [pl_put] at bl2; exact bl2
          have hB3 := hB.trans (kB.below1 hlw hB.size)
          have hC3 := hC.trans (kB.below1 (Nat.le_refl _) (by have h9 := hC.size; rw [HZL.out] at h9; exact h9))
          exact ⟨⟨i + 1, false, x.p, by omega, by go_num, rfl, (by have h9 := HI2.out; exact fun _ => h9 (by trivial)), bl3, hB3, hC3⟩, by simp [intOf]; omega⟩
    · obtain rfl : i = nd := by omega
      go_wp2_with fail
      go_ret
      exact ⟨rfl, hB⟩

set_option maxRecDepth 100000 in
theorem lifted (os : Go.Os) (started : os.Started) (H : Type) (enc : TypeId × Value → H) :
    ReturnsInHanded {} Try.checked os 5 .any (Rows.queueOrderSpec.pre6 enc Try.prog Try.f5 Rows.queueOrderRow.domain false) (Rows.queueOrderSpec.post enc Try.prog Try.f5 false true false false) := by
  refine returnsInHanded_of_change_sized (C := Try.checked) own started (by kernel_rfl) Try.func5
    (ChangeSpec.witness6 (enc := enc) (C := Try.checked) false ⟨#[], #[.agg (pyc noMb (.slice none 0 0))], []⟩ 8 (by kernel_rfl) (by kernel_rfl) (by kernel_rfl) (by kernel_rfl)) ?_
  intro W base args ds gs before hval0 hW hcnd hsz0 _
  have hval : ∀ (j : Nat) t v, Try.f5.params[j]? = some t → args[j]? = some v → Value.okWide Try.prog W .any base t v := hval0
  have hsz : (DataW.weightsEach Try.prog (Try.f5.params.toList ++ Rows.queueOrderSpec.plain.varTypes Try.prog) (ds ++ gs)).all (· ≤ reachBytes) = true := hsz0
  have hW' := hW
  obtain ⟨p, q, hA0, hV, rfl, hfz, hnd⟩ := hW
  have hA : DataW.TrodAll enc Try.prog W 0 (fun _ => true) true Try.f5.params.toList args.toList ds p := hA0
  rw [Try.params5] at hA hval hsz

  obtain ⟨v0, vs0, d0, ds0, p0, q0, hargs, rfl, rfl, h0, r0⟩ := trodAll_cons hA
  obtain ⟨rfl, rfl, rfl⟩ := trodAll_nil r0
  obtain rfl : args = #[v0] := by cases args; simp_all
  obtain ⟨rfl, rfl⟩ := trodVars_none hV
  obtain ⟨m0, la0, L0, lc0, rfl, km0, lz0, hc0, hm0, ls0, hS0⟩ := open_py (by obtain ⟨cs, h1, _⟩ := okWide_struct Try.underlying50 (hval 0 50 v0 rfl rfl); exact ⟨cs, h1⟩) (fun n hn => of_decide_eq_true (List.all_eq_true.1 hsz _ (DataW.weights_mem_each (j := 0) rfl rfl n hn))) h0
  have hA2 := hA0
  clear hA0 hval0 hsz0
  simp only [List.append_nil] at hW'
  refine (walk m0 la0 L0 lc0 lz0 hc0 hm0 W ls0 hS0).mono fun e W' ⟨he, bel⟩ => ?_
  subst he
  exact ⟨_, rfl, _, _, _, [], _, [], hW', trodAll_mk1 (shut_bool Try.underlying4 _), (stays_all laidOut bel (by kernel_rfl) hA2), rfl, bel.frame _, fun h => by cases h⟩

theorem over : Rows.queueOrderRow.holds Try.pinned (OpenSpec.ofChange Rows.queueOrderSpec) :=
  OpenClaim.holds_of_wide 5 Try.f5 rfl rfl rfl rfl rfl rfl rfl ⟨rfl, rfl, rfl, rfl, rfl⟩ rfl rfl rfl rfl rfl (by kernel_rfl) Try.func5 (by kernel_rfl)
    (of_decide_eq_true (by kernel_rfl)) (by unfold Func.isWrapper; first | (rw [if_pos (by decide +kernel)]; kernel_rfl) | (rw [if_neg (by decide +kernel)]; exact ⟨rfl, rfl⟩))
    (fun os started H enc _ => lifted os started H enc)

end Go.Proofs.Ytmnpbjaofemelaa.queueOrder
namespace Go.Proofs.Ytmnpbjaofemelaa

theorem queueOrder_holds : Rows.QueueOrderSaid := queueOrder.over
#print axioms queueOrder_holds

end Go.Proofs.Ytmnpbjaofemelaa
