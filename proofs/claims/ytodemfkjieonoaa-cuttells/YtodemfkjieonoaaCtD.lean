/-
  What the document says comes next behind a place.
  Counts and rounds are such as a uint32 holds.
-/
import Derived.Test.YtodemfkjieonoaaCtB
import Derived.Test.YtodemfkjieonoaaLsR
import Derived.Test.YtodemfkjieonoaaRbB
namespace Go.Proofs.Ytodemfkjieonoaa
set_option maxRecDepth 10000
open Go.RowKit Go.Sort
set_option linter.unusedVariables false

/- How far the document's loop over rounds is. -/
def Stp (g : Pl) (s : Bool) (low most : Nat → Nat) (d r0 r : Nat) : Prop := r0R g low d = r0 ∧ (r = r0 ∨ r = r0 + 1 ∧ r0 ≤ most d ∧ goneB g s ⟨r0, (d : Int), 0⟩ = true)
theorem Stp.le {g : Pl} {s : Bool} {low most : Nat → Nat} {d r0 r : Nat} (h : Stp g s low most d r0 r) (hg : goneB g s ⟨r, (d : Int), 0⟩ = true) : r ≤ r0 := by
  obtain ⟨h0, h | ⟨h, _, _⟩⟩ := h
  · omega
  · subst h
    rw [← h0, gone_next] at hg
    cases hg
theorem Stp.more {g : Pl} {s : Bool} {low most : Nat → Nat} {d r0 r : Nat} (h : Stp g s low most d r0 r) (hm : r ≤ most d) (hg : goneB g s ⟨r, (d : Int), 0⟩ = true) : Stp g s low most d r0 (r + 1) := by
  have hl := h.le hg
  obtain ⟨h0, h | ⟨h, _, _⟩⟩ := h
  · subst h
    exact ⟨h0, .inr ⟨rfl, hm, hg⟩⟩
  · omega
theorem Stp.end_ {g : Pl} {s : Bool} {low most : Nat → Nat} {d r0 r : Nat} (h : Stp g s low most d r0 r) (he : ¬ r ≤ most d ∨ goneB g s ⟨r, (d : Int), 0⟩ = false) : refR g s low most d = r := by
  obtain ⟨h0, h | ⟨h, h1, h2⟩⟩ := h
  · subst h
    rw [refR, h0, if_neg]
    rintro ⟨h1, h2⟩
    rcases he with he | he
    · exact he h1
    · rw [he] at h2; cases h2
  · rw [refR, h0, if_pos ⟨h1, h2⟩, h]

set_option maxHeartbeats 16000000 in
theorem next_ok (g : Pl) (s : Bool) (low most m : Nat → Nat) (hg : g.r < 4294967296) (hw : ∀ i, low i < 4294967296) (hm : ∀ i, most i < 4294967296) (w : World) : Calls Try.prog 21 #[.agg g.arr, .bool s, .agg (mbc low), .agg (mbc most), .agg (mbc m)] w fun e w' => e = .returned (.tuple #[.agg (atP (nextR g s low most m)).arr, .bool (nextR g s low most m).isSome]) ∧ Below w.heap.size w w' := by
  obtain ⟨a0, a1, a2, a3, a4, a5, hB⟩ := six_blk (T0 := 28) (T1 := 25) (T2 := 25) (T3 := 26) (T4 := 28) (T5 := 28) (C0 := g.arr) (C1 := mbc low) (C2 := mbc most) (C3 := mbc m) (C4 := Pl.zero.arr) (C5 := Pl.zero.arr) (w := w) rfl
  have HR : Hid (bestL (candR g s low most) (lst m) = nextR g s low most m) := rfl
  obtain ⟨R, hR⟩ : ∃ R, nextR g s low most m = R := ⟨_, rfl⟩
  rw [hR] at HR ⊢
  have hm8 := lst_len m
  have HM : Hid (∀ j d, (lst m)[j]? = some d → d < 8) := fun j d h => (at_lst m j d h).1
  have HC : Hid (g.r < 4294967296 ∧ (∀ i, low i < 4294967296) ∧ (∀ i, most i < 4294967296)) := ⟨hg, hw, hm⟩
  have hl := rlist_ok m
  unfold Listed at hl
  generalize lst m = L at *
  clear hR hm hw hg
  go_enter Try.func21, Try.ntmps21
  go_upto_region 2 with (first | refine alloc_zero zeroPl rfl rfl ?_ | refine build_zero builtPl rfl rfl ?_ | refine store_new rfl 28 _ _ rfl (cells := Pl.zero.arr) rfl rfl sizePl rfl (Pl.arr_one _) ?_)
  try simp only [Act.put, List.setIfInBounds_toArray, List.set_cons_zero, List.set_cons_succ]
  try simp only [alloc_size]
  generalize (((((w.alloc (Obj.cells g.arr 28)).alloc (Obj.cells (mbc low) 25)).alloc (Obj.cells (mbc most) 25)).alloc (Obj.cells (mbc m) 26)).alloc (Obj.cells Pl.zero.arr 28)).alloc (Obj.cells Pl.zero.arr 28) = W at a0 a1 a2 a3 a4 a5 hB ⊢
  go_wp2_with (refine load_blk rfl 26 _ rfl a3 rfl Try.underlying26 rfl sizeMb ?_)
  refine (hl _).mono ?_
  rintro r w1 ⟨⟨la, lc, rfl, lS⟩, hb⟩
  have hsz := a5.lt
  replace lS := lS.mono (B' := (w.heap.size + 1 + 1 + 1 + 1 + 1 + 1)) (by omega)
  replace a0 := a0.below hb
  replace a1 := a1.below hb
  replace a2 := a2.below hb
  replace a4 := a4.below hb
  replace a5 := a5.below hb
  replace hB := hB.trans (hb.mono hB.size)
  clear hb
  clear hl a3 hsz
  obtain ⟨n, hn⟩ : ∃ n, L.length = n := ⟨_, rfl⟩
  have HN : Hid (L.length = n) := hn
  rw [hn] at hm8 ⊢
  clear hn
  go_wp2_with fail
  go_loopw [13, 15] (fun fv iv wr => ∃ (j : Nat) (q : Option Pl), j ≤ n ∧ iv = .int .i64 j ∧ fv = .bool q.isSome ∧ Hid (bestL (candR g s low most) (L.take j) = q) ∧ Blk w.heap.size g.arr 28 wr ∧ Blk (w.heap.size + 1) (mbc low) 25 wr ∧ Blk (w.heap.size + 1 + 1) (mbc most) 25 wr ∧ Blk (w.heap.size + 1 + 1 + 1 + 1) Pl.zero.arr 28 wr ∧ Blk (w.heap.size + 1 + 1 + 1 + 1 + 1) (atP q).arr 28 wr ∧ Li nv (w.heap.size + 1 + 1 + 1 + 1 + 1 + 1) la L wr ∧ Below w.heap.size w wr) (fun _ iv _ => n - (intOf iv).toNat)
  case atStart => exact ⟨0, none, by omega, rfl, rfl, rfl, a0, a1, a2, a4, a5, lS, hB⟩
  case round =>
    clear a0 a1 a2 a4 a5 lS hB
    obtain ⟨j, q, hj, rfl, rfl, hq, a0, a1, a2, a4, a5, lS, hB⟩ := hrel
    by_cases hjn : j < n
    · have j0 : (j : Int) < (n : Int) := by omega
      have j1 : (0 : Int) ≤ (j : Int) := by omega
      obtain ⟨d, hd⟩ : ∃ d, L[j]? = some d := ⟨_, List.getElem?_eq_getElem (by rw [HN.out]; exact hjn)⟩
      have hd8 := HM.out j d hd
      have d0 : (d : Int) < 8 := by omega
      have d1 : (0 : Int) ≤ (d : Int) := by omega
      have hst : Hid (bestL (candR g s low most) (L.take (j + 1)) = bestS (candR g s low most) q d) := by rw [bestL_take _ L j d hd, hq.out]; rfl
      obtain ⟨b, o, rfl, _, hbl, hr⟩ := lS.at nv_length j d hd
      have c0 : wr.cell? ⟨b, o + j, none⟩ = some (.int .i64 (d : Int)) := by have := hr 0 _ rfl; simpa using this
      have c1 := a1.cell d _ (mbc_get low d hd8)
      have cg := a0.cell 0 (.int .u32 (g.r : Int)) rfl
      obtain ⟨r0, hr0⟩ : ∃ r0, r0R g low d = r0 := ⟨_, rfl⟩
      have hx0 : r0 ≤ 4294967296 := by rw [← hr0, r0R]; have := HC.out.1; have := HC.out.2.1 d; split <;> omega
      have HR0 : Hid (r0R g low d = r0 ∧ r0 ≤ 4294967296) := ⟨hr0, hx0⟩
      have u0 : IntKind.u64.wrap (g.r : Int) = (g.r : Int) := by have := HC.out.1; rw [IntKind.wrap_u64]; omega
      have u1 : IntKind.u64.wrap (low d : Int) = (low d : Int) := by have := HC.out.2.1 d; rw [IntKind.wrap_u64]; omega
      have u2 : IntKind.u64.wrap (most d : Int) = (most d : Int) := by have := HC.out.2.2 d; rw [IntKind.wrap_u64]; omega
      obtain ⟨D, hD⟩ : ∃ D, decide (g.r ≤ low d) = D := ⟨_, rfl⟩
      clear hq hr hd hr0 hx0
      go_upto_if 40 with fail
      go_cut [17] from 41 to 45 (fun rv wx => rv = .int .u64 (r0 : Int) ∧ wx = wr)
      case first =>
        cases D with
        | true =>
          have e : low d + 1 = r0 := by have h := of_decide_eq_true hD; rw [← HR0.out.1, r0R, if_pos h]
          have u3 : IntKind.u64.wrap ((low d : Int) + 1) = (r0 : Int) := by have := HC.out.2.1 d; rw [IntKind.wrap_u64]; omega
          clear e hD
          go_wp2_with fail
          go_meet
          exact ⟨rfl, rfl⟩
        | false =>
          have e : g.r = r0 := by have h := of_decide_eq_false hD; rw [← HR0.out.1, r0R, if_neg h]
          clear hD
          subst e
          go_wp2_with fail
          go_meet
          exact ⟨rfl, rfl⟩
      case rest =>
        obtain ⟨rfl, rfl⟩ := hcut
        rename World => wr
        clear c0 c1 cg u0 u1 hD
        obtain ⟨v0, hv0⟩ : ∃ v0, r0 % 4294967296 = v0 := ⟨_, rfl⟩
        have HV0 : Hid (r0 % 4294967296 = v0) := hv0
        have u4 : IntKind.u32.wrap (r0 : Int) = (v0 : Int) := by rw [IntKind.wrap_u32]; omega
        have a6 := blk_new wr (Pl.mk v0 (d : Int) 0).arr 28
        have hb := below_box wr (.cells (Pl.mk v0 (d : Int) 0).arr 28)
        have hq5 := a5.lt
        replace a0 := a0.below hb
        replace a1 := a1.below hb
        replace a2 := a2.below hb
        replace a4 := a4.below hb
        replace a5 := a5.below hb
        replace lS := lS.below hb
        replace hB := hB.trans (hb.mono hB.size)
        clear hb
        clear hv0
        go_upto_region 12 with (first | refine build_as rfl 28 #[(0, .tmp 47), (1, .tmp 48)] rfl (C := (Pl.mk v0 (d : Int) 0).arr) (builtPl2 v0 d) ?_ | refine alloc_zero zeroPl rfl rfl ?_ | refine store_new rfl 28 _ _ rfl (cells := (Pl.mk v0 (d : Int) 0).arr) rfl rfl sizePl rfl (Pl.arr_one _) ?_)
        try simp only [Act.put, List.setIfInBounds_toArray, List.set_cons_zero, List.set_cons_succ]
        generalize wr.alloc (Obj.cells (Pl.mk v0 (d : Int) 0).arr 28) = V at a0 a1 a2 a4 a5 lS a6 hB ⊢
        generalize wr.heap.size = vs at a6 hq5 hbl ⊢
        clear u4
        have HT0 : Hid (Stp g s low most d r0 r0) := ⟨HR0.out.1, .inl rfl⟩
        go_loopw [17] (fun rv wr => ∃ r v : Nat, rv = .int .u64 (r : Int) ∧ Hid (r % 4294967296 = v) ∧ Hid (Stp g s low most d r0 r) ∧ Blk w.heap.size g.arr 28 wr ∧ Blk (w.heap.size + 1) (mbc low) 25 wr ∧ Blk (w.heap.size + 1 + 1) (mbc most) 25 wr ∧ Blk (w.heap.size + 1 + 1 + 1 + 1) Pl.zero.arr 28 wr ∧ Blk (w.heap.size + 1 + 1 + 1 + 1 + 1) (atP q).arr 28 wr ∧ Li nv (w.heap.size + 1 + 1 + 1 + 1 + 1 + 1) (some ⟨b, o, none⟩) L wr ∧ Below w.heap.size w wr ∧ Blk vs (Pl.mk v (d : Int) 0).arr 28 wr) (fun rv _ => r0 + 1 - (intOf rv).toNat)
        case atStart => exact ⟨r0, v0, rfl, HV0, HT0, a0, a1, a2, a4, a5, lS, hB, a6⟩
        case round =>
          clear a0 a1 a2 a4 a5 lS a6 hB
          obtain ⟨r, v, rfl, hv, ht, a0, a1, a2, a4, a5, lS, hB, a6⟩ := hrel
          have c2 := a2.cell d _ (mbc_get most d hd8)
          by_cases hrm : r ≤ most d
          · have t1 : decide (r ≤ most d) = true := by simpa using hrm
            have hr32 : r < 4294967296 := by have := HC.out.2.2 d; omega
            obtain rfl : r = v := by rw [← hv.out]; exact (Nat.mod_eq_of_lt hr32).symm
            have hrm : Hid (r ≤ most d) := hrm
            have pb := rbef_ok ⟨r, (d : Int), 0⟩ g
            clear hv
            by_cases hgone : goneB g s ⟨r, (d : Int), 0⟩ = true
            · have HT' : Hid (Stp g s low most d r0 (r + 1)) := ht.out.more hrm.out hgone
              have hle : r ≤ r0 := ht.out.le hgone
              obtain ⟨v', hv'⟩ : ∃ v', (r + 1) % 4294967296 = v' := ⟨_, rfl⟩
              have HV' : Hid ((r + 1) % 4294967296 = v') := hv'
              have u3 : IntKind.u64.wrap ((r : Int) + 1) = (r : Int) + 1 := by rw [IntKind.wrap_u64]; omega
              have u5 : IntKind.u32.wrap ((r : Int) + 1) = (v' : Int) := by rw [IntKind.wrap_u32]; omega
              have hput : (Pl.mk r (d : Int) 0).arr.setIfInBounds 0 (.int .u32 (v' : Int)) = (Pl.mk v' (d : Int) 0).arr := rfl
              clear hv' hr32 hrm ht
              by_cases hbf : befB ⟨r, (d : Int), 0⟩ g = true
              · rw [hbf] at pb
                clear hbf hgone
                go_wp2_with (first | refine load_want rfl 28 _ rfl a6 rfl Try.underlying28 rfl sizePl ?_ | refine load_want rfl 28 _ rfl a0 rfl Try.underlying28 rfl sizePl ?_)
                refine (pb _).mono ?_
                rintro r' w6 ⟨rfl, hb⟩
                replace a0 := a0.below hb
                replace a1 := a1.below hb
                replace a2 := a2.below hb
                replace a4 := a4.below hb
                replace a5 := a5.below hb
                replace lS := lS.below hb
                replace a6 := a6.below hb
                replace hB := hB.trans (hb.mono hB.size)
                clear hb
                clear pb c2
                go_upto_region 13 with fail
                go_wp2_with (refine store_one rfl 23 _ _ rfl (off := 0) (.int .u32 (v' : Int)) a6 rfl rfl rfl rfl sizeU32 (by rw [Pl.arr_size]; omega) ?_; intro w9 b9 k9; rw [hput] at b9; have z0 := a0.kp1 k9 (by omega); have z1 := a1.kp1 k9 (by omega); have z2 := a2.kp1 k9 (by omega); have z4 := a4.kp1 k9 (by omega); have z5 := a5.kp1 k9 (by omega); have zS := lS.kept k9 (fun b' o' e => by cases e; simp; omega); have zB : Below w.heap.size w w9 := hB.trans (k9.below1 (by omega) hB.size); simp only [Act.put])
                exact ⟨⟨r + 1, v', by go_num, HV', HT', z0, z1, z2, z4, z5, zS, zB, b9⟩, by simp [intOf]; omega⟩
              · have hbf : befB ⟨r, (d : Int), 0⟩ g = false := by simpa using hbf
                have hq2 : Pl.same ⟨r, (d : Int), 0⟩ g = true ∧ s = false := by
                  simp only [goneB, hbf, Bool.false_or, Bool.and_eq_true] at hgone
                  exact ⟨hgone.1, by simpa using hgone.2⟩
                obtain ⟨hsm, rfl⟩ := hq2
                have kE := eqlPl ⟨r, (d : Int), 0⟩ g true hsm
                rw [hbf] at pb
                clear hbf hgone hsm
                go_wp2_with (first | refine load_want rfl 28 _ rfl a6 rfl Try.underlying28 rfl sizePl ?_ | refine load_want rfl 28 _ rfl a0 rfl Try.underlying28 rfl sizePl ?_)
                refine (pb _).mono ?_
                rintro r' w6 ⟨rfl, hb⟩
                replace a0 := a0.below hb
                replace a1 := a1.below hb
                replace a2 := a2.below hb
                replace a4 := a4.below hb
                replace a5 := a5.below hb
                replace lS := lS.below hb
                replace a6 := a6.below hb
                replace hB := hB.trans (hb.mono hB.size)
                clear hb
                clear pb c2
                go_upto_region 13 with (first | refine load_want rfl 28 _ rfl a6 rfl Try.underlying28 rfl sizePl ?_ | refine load_want rfl 28 _ rfl a0 rfl Try.underlying28 rfl sizePl ?_)
                clear kE
                go_wp2_with (refine store_one rfl 23 _ _ rfl (off := 0) (.int .u32 (v' : Int)) a6 rfl rfl rfl rfl sizeU32 (by rw [Pl.arr_size]; omega) ?_; intro w9 b9 k9; rw [hput] at b9; have z0 := a0.kp1 k9 (by omega); have z1 := a1.kp1 k9 (by omega); have z2 := a2.kp1 k9 (by omega); have z4 := a4.kp1 k9 (by omega); have z5 := a5.kp1 k9 (by omega); have zS := lS.kept k9 (fun b' o' e => by cases e; simp; omega); have zB : Below w.heap.size w w9 := hB.trans (k9.below1 (by omega) hB.size); simp only [Act.put])
                exact ⟨⟨r + 1, v', by go_num, HV', HT', z0, z1, z2, z4, z5, zS, zB, b9⟩, by simp [intOf]; omega⟩
            · have HX : Hid (refR g s low most d = r) := ht.out.end_ (.inr (by simpa using hgone))
              have hbf : befB ⟨r, (d : Int), 0⟩ g = false := by
                simp only [goneB, Bool.or_eq_true, not_or] at hgone
                simpa using hgone.1
              rw [hbf] at pb
              clear ht hr32
              by_cases hsm : Pl.same ⟨r, (d : Int), 0⟩ g = true
              · obtain rfl : s = true := by
                  simp only [goneB, hbf, hsm, Bool.false_or, Bool.true_and] at hgone
                  simpa using hgone
                have kE := eqlPl ⟨r, (d : Int), 0⟩ g true hsm
                clear hbf hgone hsm
                go_wp2_with (first | refine load_want rfl 28 _ rfl a6 rfl Try.underlying28 rfl sizePl ?_ | refine load_want rfl 28 _ rfl a0 rfl Try.underlying28 rfl sizePl ?_)
                refine (pb _).mono ?_
                rintro r' w6 ⟨rfl, hb⟩
                replace a0 := a0.below hb
                replace a1 := a1.below hb
                replace a2 := a2.below hb
                replace a4 := a4.below hb
                replace a5 := a5.below hb
                replace lS := lS.below hb
                replace a6 := a6.below hb
                replace hB := hB.trans (hb.mono hB.size)
                clear hb
                clear pb c2
                go_upto_region 15 with (first | refine load_want rfl 28 _ rfl a6 rfl Try.underlying28 rfl sizePl ?_ | refine load_want rfl 28 _ rfl a0 rfl Try.underlying28 rfl sizePl ?_)
                clear kE
                have c2 := a2.cell d _ (mbc_get most d hd8)
                have HP : candR g true low most d = some ⟨r, (d : Int), 0⟩ := by rw [candR, HX.out, if_pos hrm.out]
                have HS0 : Hid (bestL (candR g true low most) (L.take (j + 1)) = better q ⟨r, (d : Int), 0⟩) := by rw [hst.out, bestS, HP]; rfl
                clear HP HX
                have hpa : ∀ k : Pl, putAt k.arr 0 (Pl.mk r (d : Int) 0).arr.toList = (Pl.mk r (d : Int) 0).arr := fun k => putAt_all _ _ rfl
                cases q with
                | none =>
                  have HS : Hid (bestL (candR g true low most) (L.take (j + 1)) = some ⟨r, (d : Int), 0⟩) := HS0
                  clear HS0
                  go_wp2_with (first | refine load_blk rfl 28 _ rfl a6 rfl Try.underlying28 rfl sizePl ?_ | (refine store_part rfl 28 _ _ rfl (off := 0) (cells := (Pl.mk r (d : Int) 0).arr) a5 rfl rfl sizePl (Nat.le_refl _) (Pl.arr_one _) ?_; intro w9 b9 k9; rw [hpa] at b9; have z0 := a0.kp1 k9 (by omega); have z1 := a1.kp1 k9 (by omega); have z2 := a2.kp1 k9 (by omega); have z4 := a4.kp1 k9 (by omega); have zS := lS.kp k9 (fun k hk => by simp at hk; omega); have zB : Below w.heap.size w w9 := hB.trans (k9.below1 (by omega) hB.size)))
                  exact ⟨⟨j + 1, some ⟨r, (d : Int), 0⟩, by omega, by go_num, rfl, HS, z0, z1, z2, z4, b9, zS, zB⟩, by simp [intOf]; omega⟩
                | some y =>
                  have pc := rbef_ok ⟨r, (d : Int), 0⟩ y
                  by_cases hlt : befB ⟨r, (d : Int), 0⟩ y = true
                  · have HS : Hid (bestL (candR g true low most) (L.take (j + 1)) = some ⟨r, (d : Int), 0⟩) := by rw [HS0.out, better, if_pos hlt]; rfl
                    rw [hlt] at pc
                    clear HS0 hlt
                    go_wp2_with (first | refine load_want rfl 28 _ rfl a6 rfl Try.underlying28 rfl sizePl ?_ | refine load_want rfl 28 _ rfl a5 rfl Try.underlying28 rfl sizePl ?_)
                    refine (pc _).mono ?_
                    rintro r' w7 ⟨rfl, hb⟩
                    replace a0 := a0.below hb
                    replace a1 := a1.below hb
                    replace a2 := a2.below hb
                    replace a4 := a4.below hb
                    replace a5 := a5.below hb
                    replace lS := lS.below hb
                    replace a6 := a6.below hb
                    replace hB := hB.trans (hb.mono hB.size)
                    clear hb
                    clear pc
                    go_wp2_with (first | refine load_blk rfl 28 _ rfl a6 rfl Try.underlying28 rfl sizePl ?_ | (refine store_part rfl 28 _ _ rfl (off := 0) (cells := (Pl.mk r (d : Int) 0).arr) a5 rfl rfl sizePl (Nat.le_refl _) (Pl.arr_one _) ?_; intro w9 b9 k9; rw [hpa] at b9; have z0 := a0.kp1 k9 (by omega); have z1 := a1.kp1 k9 (by omega); have z2 := a2.kp1 k9 (by omega); have z4 := a4.kp1 k9 (by omega); have zS := lS.kp k9 (fun k hk => by simp at hk; omega); have zB : Below w.heap.size w w9 := hB.trans (k9.below1 (by omega) hB.size)))
                    exact ⟨⟨j + 1, some ⟨r, (d : Int), 0⟩, by omega, by go_num, rfl, HS, z0, z1, z2, z4, b9, zS, zB⟩, by simp [intOf]; omega⟩
                  · have HS : Hid (bestL (candR g true low most) (L.take (j + 1)) = some y) := by rw [HS0.out, better, if_neg hlt]; rfl
                    rw [show befB ⟨r, (d : Int), 0⟩ y = false by simpa using hlt] at pc
                    clear HS0 hlt
                    go_wp2_with (first | refine load_want rfl 28 _ rfl a6 rfl Try.underlying28 rfl sizePl ?_ | refine load_want rfl 28 _ rfl a5 rfl Try.underlying28 rfl sizePl ?_)
                    refine (pc _).mono ?_
                    rintro r' w7 ⟨rfl, hb⟩
                    replace a0 := a0.below hb
                    replace a1 := a1.below hb
                    replace a2 := a2.below hb
                    replace a4 := a4.below hb
                    replace a5 := a5.below hb
                    replace lS := lS.below hb
                    replace a6 := a6.below hb
                    replace hB := hB.trans (hb.mono hB.size)
                    clear hb
                    clear pc
                    go_wp2_with fail
                    exact ⟨⟨j + 1, some y, by omega, by go_num, rfl, HS, a0, a1, a2, a4, a5, lS, hB⟩, by simp [intOf]; omega⟩
              · have hsm : Pl.same ⟨r, (d : Int), 0⟩ g = false := by simpa using hsm
                have kE := eqlPl ⟨r, (d : Int), 0⟩ g false hsm
                clear hbf hgone hsm
                go_wp2_with (first | refine load_want rfl 28 _ rfl a6 rfl Try.underlying28 rfl sizePl ?_ | refine load_want rfl 28 _ rfl a0 rfl Try.underlying28 rfl sizePl ?_)
                refine (pb _).mono ?_
                rintro r' w6 ⟨rfl, hb⟩
                replace a0 := a0.below hb
                replace a1 := a1.below hb
                replace a2 := a2.below hb
                replace a4 := a4.below hb
                replace a5 := a5.below hb
                replace lS := lS.below hb
                replace a6 := a6.below hb
                replace hB := hB.trans (hb.mono hB.size)
                clear hb
                clear pb c2
                go_upto_region 15 with (first | refine load_want rfl 28 _ rfl a6 rfl Try.underlying28 rfl sizePl ?_ | refine load_want rfl 28 _ rfl a0 rfl Try.underlying28 rfl sizePl ?_)
                clear kE
                have c2 := a2.cell d _ (mbc_get most d hd8)
                have HP : candR g s low most d = some ⟨r, (d : Int), 0⟩ := by rw [candR, HX.out, if_pos hrm.out]
                have HS0 : Hid (bestL (candR g s low most) (L.take (j + 1)) = better q ⟨r, (d : Int), 0⟩) := by rw [hst.out, bestS, HP]; rfl
                clear HP HX
                have hpa : ∀ k : Pl, putAt k.arr 0 (Pl.mk r (d : Int) 0).arr.toList = (Pl.mk r (d : Int) 0).arr := fun k => putAt_all _ _ rfl
                cases q with
                | none =>
                  have HS : Hid (bestL (candR g s low most) (L.take (j + 1)) = some ⟨r, (d : Int), 0⟩) := HS0
                  clear HS0
                  go_wp2_with (first | refine load_blk rfl 28 _ rfl a6 rfl Try.underlying28 rfl sizePl ?_ | (refine store_part rfl 28 _ _ rfl (off := 0) (cells := (Pl.mk r (d : Int) 0).arr) a5 rfl rfl sizePl (Nat.le_refl _) (Pl.arr_one _) ?_; intro w9 b9 k9; rw [hpa] at b9; have z0 := a0.kp1 k9 (by omega); have z1 := a1.kp1 k9 (by omega); have z2 := a2.kp1 k9 (by omega); have z4 := a4.kp1 k9 (by omega); have zS := lS.kp k9 (fun k hk => by simp at hk; omega); have zB : Below w.heap.size w w9 := hB.trans (k9.below1 (by omega) hB.size)))
                  exact ⟨⟨j + 1, some ⟨r, (d : Int), 0⟩, by omega, by go_num, rfl, HS, z0, z1, z2, z4, b9, zS, zB⟩, by simp [intOf]; omega⟩
                | some y =>
                  have pc := rbef_ok ⟨r, (d : Int), 0⟩ y
                  by_cases hlt : befB ⟨r, (d : Int), 0⟩ y = true
                  · have HS : Hid (bestL (candR g s low most) (L.take (j + 1)) = some ⟨r, (d : Int), 0⟩) := by rw [HS0.out, better, if_pos hlt]; rfl
                    rw [hlt] at pc
                    clear HS0 hlt
                    go_wp2_with (first | refine load_want rfl 28 _ rfl a6 rfl Try.underlying28 rfl sizePl ?_ | refine load_want rfl 28 _ rfl a5 rfl Try.underlying28 rfl sizePl ?_)
                    refine (pc _).mono ?_
                    rintro r' w7 ⟨rfl, hb⟩
                    replace a0 := a0.below hb
                    replace a1 := a1.below hb
                    replace a2 := a2.below hb
                    replace a4 := a4.below hb
                    replace a5 := a5.below hb
                    replace lS := lS.below hb
                    replace a6 := a6.below hb
                    replace hB := hB.trans (hb.mono hB.size)
                    clear hb
                    clear pc
                    go_wp2_with (first | refine load_blk rfl 28 _ rfl a6 rfl Try.underlying28 rfl sizePl ?_ | (refine store_part rfl 28 _ _ rfl (off := 0) (cells := (Pl.mk r (d : Int) 0).arr) a5 rfl rfl sizePl (Nat.le_refl _) (Pl.arr_one _) ?_; intro w9 b9 k9; rw [hpa] at b9; have z0 := a0.kp1 k9 (by omega); have z1 := a1.kp1 k9 (by omega); have z2 := a2.kp1 k9 (by omega); have z4 := a4.kp1 k9 (by omega); have zS := lS.kp k9 (fun k hk => by simp at hk; omega); have zB : Below w.heap.size w w9 := hB.trans (k9.below1 (by omega) hB.size)))
                    exact ⟨⟨j + 1, some ⟨r, (d : Int), 0⟩, by omega, by go_num, rfl, HS, z0, z1, z2, z4, b9, zS, zB⟩, by simp [intOf]; omega⟩
                  · have HS : Hid (bestL (candR g s low most) (L.take (j + 1)) = some y) := by rw [HS0.out, better, if_neg hlt]; rfl
                    rw [show befB ⟨r, (d : Int), 0⟩ y = false by simpa using hlt] at pc
                    clear HS0 hlt
                    go_wp2_with (first | refine load_want rfl 28 _ rfl a6 rfl Try.underlying28 rfl sizePl ?_ | refine load_want rfl 28 _ rfl a5 rfl Try.underlying28 rfl sizePl ?_)
                    refine (pc _).mono ?_
                    rintro r' w7 ⟨rfl, hb⟩
                    replace a0 := a0.below hb
                    replace a1 := a1.below hb
                    replace a2 := a2.below hb
                    replace a4 := a4.below hb
                    replace a5 := a5.below hb
                    replace lS := lS.below hb
                    replace a6 := a6.below hb
                    replace hB := hB.trans (hb.mono hB.size)
                    clear hb
                    clear pc
                    go_wp2_with fail
                    exact ⟨⟨j + 1, some y, by omega, by go_num, rfl, HS, a0, a1, a2, a4, a5, lS, hB⟩, by simp [intOf]; omega⟩
          · have t1 : decide (r ≤ most d) = false := by simpa using hrm
            have HX : refR g s low most d = r := ht.out.end_ (.inl hrm)
            have HP : candR g s low most d = none := by rw [candR, HX, if_neg hrm]
            have HS : Hid (bestL (candR g s low most) (L.take (j + 1)) = q) := by rw [hst.out, bestS, HP]; rfl
            clear HX HP hrm ht hv
            go_wp2_with fail
            exact ⟨⟨j + 1, q, by omega, by go_num, rfl, HS, a0, a1, a2, a4, a5, lS, hB⟩, by simp [intOf]; omega⟩
    · obtain rfl : j = n := by omega
      obtain rfl : q = R := by rw [← hq.out, ← HR.out, List.take_of_length_le (by rw [HN.out]; omega)]
      have hpa : putAt Pl.zero.arr 0 (atP q).arr.toList = (atP q).arr := putAt_all _ _ rfl
      clear hq HR HM HN HC lS a0 a1 a2
      go_wp2_with (first | refine load_blk rfl 28 _ rfl a5 rfl Try.underlying28 rfl sizePl ?_ | (refine store_part rfl 28 _ _ rfl (off := 0) (cells := (atP q).arr) a4 rfl rfl sizePl (Nat.le_refl _) (Pl.arr_one _) ?_; intro w9 b9 k9; rw [hpa] at b9; have hB9 : Below w.heap.size w w9 := hB.trans (k9.below1 (by omega) hB.size)))
      exact bodyPost_ret (w := w9) (v := .tuple #[.agg (atP q).arr, .bool q.isSome]) (ret_two rfl rfl b9 Try.underlying28 rfl sizePl rfl) rfl ⟨rfl, hB9⟩

end Go.Proofs.Ytodemfkjieonoaa
