/-
  Of the texts beneath these laws, in their order: CeB, Ix.
  Each theorem says its own conditions.
-/
import Derived.Test.YthgfpdidilolgaaGreatZ16
import Derived.Test.YthgfpdidilolgaaGreatZ00
import Derived.Test.YthgfpdidilolgaaGreatZ15
namespace Go.Proofs.YthgfpdidilolgaaGreat
set_option maxRecDepth 10000
set_option linter.unusedSimpArgs false
open Go.RowKit Go.Sort
set_option linter.unusedVariables false
def outQ (c : Co) (m : Nat → Nat) (d : Nat) : Bool := !decide ((d : Int) = c.self) && aboveB c m d
theorem outB_any (c : Co) (m : Nat → Nat) : outB c m = (lst m).any (outQ c m) := by
 unfold outB oth outQ
 rw [List.any_filter]
theorem any_take_no {α : Type} (q : α → Bool) (L : List α) (j : Nat) (d : α) (h : L[j]? = some d) (hq : q d = false) (ha : (L.take j).any q = false) : (L.take (j + 1)).any q = false := by
 rw [List.take_add_one, h]
 simp [ha, hq]
theorem any_yes {α : Type} (q : α → Bool) (L : List α) (j : Nat) (d : α) (h : L[j]? = some d) (hq : q d = true) : L.any q = true := List.any_eq_true.2 ⟨d, List.mem_of_getElem? h, hq⟩
set_option maxHeartbeats 8000000 in
theorem outdone_ok (P : Nat) (c : Co) (v : Value) (s : Nat) (hs : s < 8) (hcs : c.self = (s : Int)) (m : Nat → Nat) (w : World) (b0 : Blk P (unc c v) 166 w) :
  Calls Tryz.prog 160 #[.pointer (some ⟨P, 0, none⟩), .agg (mbc m)] w fun e w' => e = .returned (.bool (outB c m)) ∧ Below w.heap.size w w' := by
 have hP := b0.lt
 have a0 := blk_new w (mbc m) 55
 have hb := below_box w (.cells (mbc m) 55)
 obtain ⟨R, hR⟩ : ∃ R, Hid ((lst m).any (outQ c m) = R) := ⟨_, rfl⟩
 rw [outB_any, hR.out]
 go_enter Tryz.func160, Tryz.ntmps160
 go_upto_region 1 with fail
 generalize w.alloc (Obj.cells (mbc m) 55) = W at a0 hb ⊢
 have bP := b0.below hb
 have hB := hb
 clear b0 hb
 go_wp2_with (refine load_blk rfl 55 _ rfl a0 rfl Tryz.underlying55 rfl sizeMb ?_)
 refine (list_ok m _).mono ?_
 rintro r w1 ⟨⟨la, lc, rfl, hL⟩, hb⟩
 replace hL := hL.mono (Nat.zero_le _)
 replace a0 := a0.below hb
 replace bP := bP.below hb
 replace hB := hB.trans (hb.mono hB.size)
 clear hb 
 have hn8 := lst_len m
 obtain ⟨L, HL⟩ : ∃ L, Hid (lst m = L) := ⟨_, rfl⟩
 have HM : Hid (∀ d ∈ L, d < 8) := fun d hd => by rw [← HL.out] at hd; exact ((mem_lst _ _).1 hd).1
 rw [HL.out] at hL hn8 ⊢
 have HR : Hid (L.any (outQ c m) = R) := by rw [← HL.out]; exact hR
 clear HL hR
 obtain ⟨n, hn⟩ : ∃ n, L.length = n := ⟨_, rfl⟩
 rw [hn] at hn8 ⊢
 have HN : Hid (L.length = n) := hn
 clear hn
 go_wp2_with fail
 go_loopw [11] (fun iv wr => ∃ j : Nat, j ≤ n ∧ iv = .int .i64 j ∧ Hid ((L.take j).any (outQ c m) = false) ∧ Blk P (unc c v) 166 wr ∧ Blk w.heap.size (mbc m) 55 wr ∧ Li nv 0 la L wr ∧ Below w.heap.size w wr) (fun iv _ => n - (intOf iv).toNat)
 case atStart => exact ⟨0, by omega, rfl, rfl, bP, a0, hL, hB⟩
 case round =>
  clear bP a0 hL hB
  obtain ⟨j, hj, rfl, HA, bP, a0, hL, hB⟩ := hrel
  by_cases hjn : j < n
  ·have j0 : (j : Int) < (n : Int) := by omega
   have j1 : (0 : Int) ≤ (j : Int) := by omega
   obtain ⟨d, hk⟩ : ∃ k, L[j]? = some k := ⟨_, List.getElem?_eq_getElem (by rw [HN.out]; exact hjn)⟩
   have hd := HM.out d (List.mem_of_getElem? hk)
   obtain ⟨b, o, rfl, hvb, hbl, hr⟩ := hL.at nv_length j d hk
   have c0 : wr.cell? ⟨b, o + j, none⟩ = some (.int .i64 (d : Int)) := by have := hr 0 _ rfl; simpa using this
   have d1 : (0 : Int) ≤ (d : Int) := by omega
   have d2 : (d : Int) < 8 := by omega
   have pc := cmp_ok (c.peers d).pr c.pr
   obtain ⟨t1, ht1⟩ : ∃ t, decide ((d : Int) = c.self) = t := ⟨_, rfl⟩
   obtain ⟨t2, ht2⟩ : ∃ t, decide ((c.peers d).inc = m d) = t := ⟨_, rfl⟩
   obtain ⟨t3, ht3⟩ : ∃ t, decide (0 < cmpId (c.peers d).pr c.pr) = t := ⟨_, rfl⟩
   have HQ : Hid (outQ c m d = (!t1 && (t2 && t3))) := by show outQ c m d = _; rw [outQ, aboveB, ht1, ht2, ht3]
   generalize cmpId (c.peers d).pr c.pr = k at pc ht3
   have k1 : ((d : Int) == (s : Int)) = t1 := by rw [← ht1, hcs, Bool.eq_iff_iff, beq_iff_eq, decide_eq_true_iff]
   have k1' : ((d : Int) != (s : Int)) = !t1 := by rw [bne, k1]
   have k2 : (((c.peers d).inc : Int) == (m d : Int)) = t2 := by rw [← ht2, Bool.eq_iff_iff, beq_iff_eq, decide_eq_true_iff]; omega
   have hp := un_peer c v d hd
   clear ht1 ht2 hr
   have hb := below_box wr (.cells (c.peers d).arr 75)
   have b3 := blk_new wr (c.peers d).arr 75
   go_upto_region 5 with (first | refine load_part rfl 75 _ rfl (o := 60 + d * 16) bP rfl (c.peers d).vals hp Tryz.underlying75 rfl sizePe ?_ | refine alloc_zero zeroPe rfl rfl ?_ | refine store_new rfl 75 _ _ rfl (cells := (c.peers d).arr) rfl rfl sizePe rfl (Pe.arr_one _) ?_)
   try simp only [Act.put, List.setIfInBounds_toArray, List.set_cons_zero, List.set_cons_succ]
   generalize wr.alloc (Obj.cells (c.peers d).arr 75) = W3 at b3 hb ⊢
   replace bP := bP.below hb
   replace a0 := a0.below hb
   replace hL := hL.below hb
   replace hB := hB.trans (hb.mono hB.size)
   clear hb c0 hp
   generalize wr.heap.size = p at b3 hbl ⊢
   have hL0 := hL.below (Below.refl _ _).drew
   have hB0 := hB.drew
   clear hL hB
   cases t1 with
   | true =>
    clear k2 ht3 pc
    refine wp_region_held_drew (S := fun w' => Blk p (c.peers d).arr 75 w' ∧ Blk P (unc c v) 166 w' ∧ Blk w.heap.size (mbc m) 55 w') (by kernel_rfl) ⟨b3.drew, bP.drew, a0.drew⟩ (fun hHeld => ?_)
    refine tkQ 0 hHeld ?_
    try simp only [yy]
    refine tkQ 1 hHeld ?_
    try simp only [yy]
    refine tkQ 2 hHeld ?_
    try simp only [yy]
    refine tkQ 3 hHeld ?_
    try simp only [yy]
    refine tkQ 4 hHeld ?_
    try simp only [yy]
    refine tkH 5 (v := ?v6) rfl (by kernel_rfl) (fun _ _ _ h => h) (Or.inl ⟨by rfl, ?hy6⟩) hHeld ?_
    case hy6 => (intro w hSw; have hc : w.cell? ⟨P, 0, none⟩ = some (.int .i64 (s : Int)) := (hSw.2.1.cell 0 (.int .i64 c.self) rfl).trans (by rw [hcs]); clear hSw; go_simp; try with_reducible rfl)
    try simp only [yy]
    refine tkQ 6 hHeld ?_
    try simp only [yy]
    refine tkQ 7 hHeld ?_
    try simp only [yy]
    refine tkU 8 hHeld ?_
    try simp only [yy]
    refine tkU 9 hHeld ?_
    try simp only [yy]
    refine tkU 10 hHeld ?_
    try simp only [yy]
    refine tkU 11 hHeld ?_
    try simp only [yy]
    refine tkU 12 hHeld ?_
    try simp only [yy]
    refine tkU 13 hHeld ?_
    try simp only [yy]
    refine tkQ 14 hHeld ?_
    try simp only [yy]
    refine tkQ 15 hHeld ?_
    try simp only [yy]
    refine tkU 16 hHeld ?_
    try simp only [yy]
    refine tkU 17 hHeld ?_
    try simp only [yy]
    refine tkU 18 hHeld ?_
    try simp only [yy]
    refine tkU 19 hHeld ?_
    try simp only [yy]
    refine tkU 20 hHeld ?_
    try simp only [yy]
    refine tkU 21 hHeld ?_
    try simp only [yy]
    refine tkU 22 hHeld ?_
    try simp only [yy]
    refine tkU 23 hHeld ?_
    try simp only [yy]
    refine tkU 24 hHeld ?_
    try simp only [yy]
    refine tkQ 25 hHeld ?_
    try simp only [yy]
    refine wpAnyH_done (by kernel_rfl) ?_ _
    have b3 := hHeld.1
    have bP := hHeld.2.1
    have a0 := hHeld.2.2
    have hL := hL0
    have hB := hB0
    clear hHeld hL0 hB0 b3
    replace HA := any_take_no _ L j d hk HQ.out HA
    clear HQ hk
    go_wp2_with fail
    exact ⟨⟨j + 1, by omega, by go_num, HA, bP, a0, hL, hB⟩, by simp [intOf]; omega⟩
   | false =>
    cases t2 with
    | false =>
     clear ht3 pc
     refine wp_region_held_drew (S := fun w' => Blk p (c.peers d).arr 75 w' ∧ Blk P (unc c v) 166 w' ∧ Blk w.heap.size (mbc m) 55 w') (by kernel_rfl) ⟨b3.drew, bP.drew, a0.drew⟩ (fun hHeld => ?_)
     refine tkQ 0 hHeld ?_
     try simp only [yy]
     refine tkQ 1 hHeld ?_
     try simp only [yy]
     refine tkQ 2 hHeld ?_
     try simp only [yy]
     refine tkQ 3 hHeld ?_
     try simp only [yy]
     refine tkQ 4 hHeld ?_
     try simp only [yy]
     refine tkH 5 (v := ?v32) rfl (by kernel_rfl) (fun _ _ _ h => h) (Or.inl ⟨by rfl, ?hy32⟩) hHeld ?_
     case hy32 => (intro w hSw; have hc : w.cell? ⟨P, 0, none⟩ = some (.int .i64 (s : Int)) := (hSw.2.1.cell 0 (.int .i64 c.self) rfl).trans (by rw [hcs]); clear hSw; go_simp; try with_reducible rfl)
     try simp only [yy]
     refine tkQ 6 hHeld ?_
     try simp only [yy]
     refine tkQ 7 hHeld ?_
     try simp only [yy]
     refine tkQ 8 hHeld ?_
     try simp only [yy]
     refine tkH 9 (v := ?v36) rfl (by kernel_rfl) (fun _ _ _ h => h) (Or.inl ⟨by rfl, ?hy36⟩) hHeld ?_
     case hy36 => (intro w hSw; have hc : w.cell? ⟨p, 0, none⟩ = some (.int .u32 ((c.peers d).inc : Int)) := hSw.1.cell 0 _ rfl; clear hSw; go_simp; try with_reducible rfl)
     try simp only [yy]
     refine tkQ 10 hHeld ?_
     try simp only [yy]
     refine tkQ 11 hHeld ?_
     try simp only [yy]
     refine tkH 12 (v := ?v39) rfl (by kernel_rfl) (fun _ _ _ h => h) (Or.inl ⟨by rfl, ?hy39⟩) hHeld ?_
     case hy39 => (intro w hSw; have hc := hSw.2.2.cell d _ (mbc_get m d hd); clear hSw; go_simp; try with_reducible rfl)
     try simp only [yy]
     refine tkQ 13 hHeld ?_
     try simp only [yy]
     refine tkQ 14 hHeld ?_
     try simp only [yy]
     refine tkQ 15 hHeld ?_
     try simp only [yy]
     refine tkU 16 hHeld ?_
     try simp only [yy]
     refine tkU 17 hHeld ?_
     try simp only [yy]
     refine tkU 18 hHeld ?_
     try simp only [yy]
     refine tkU 19 hHeld ?_
     try simp only [yy]
     refine tkU 20 hHeld ?_
     try simp only [yy]
     refine tkU 21 hHeld ?_
     try simp only [yy]
     refine tkU 22 hHeld ?_
     try simp only [yy]
     refine tkU 23 hHeld ?_
     try simp only [yy]
     refine tkU 24 hHeld ?_
     try simp only [yy]
     refine tkQ 25 hHeld ?_
     try simp only [yy]
     refine wpAnyH_done (by kernel_rfl) ?_ _
     have b3 := hHeld.1
     have bP := hHeld.2.1
     have a0 := hHeld.2.2
     have hL := hL0
     have hB := hB0
     clear hHeld hL0 hB0 b3
     replace HA := any_take_no _ L j d hk HQ.out HA
     clear HQ hk
     go_wp2_with fail
     exact ⟨⟨j + 1, by omega, by go_num, HA, bP, a0, hL, hB⟩, by simp [intOf]; omega⟩
    | true =>
     refine wp_region_held_drew (S := fun w' => Blk p (c.peers d).arr 75 w' ∧ Blk P (unc c v) 166 w' ∧ Blk w.heap.size (mbc m) 55 w') (by kernel_rfl) ⟨b3.drew, bP.drew, a0.drew⟩ (fun hHeld => ?_)
     refine tkQ 0 hHeld ?_
     try simp only [yy]
     refine tkQ 1 hHeld ?_
     try simp only [yy]
     refine tkQ 2 hHeld ?_
     try simp only [yy]
     refine tkQ 3 hHeld ?_
     try simp only [yy]
     refine tkQ 4 hHeld ?_
     try simp only [yy]
     refine tkH 5 (v := ?v58) rfl (by kernel_rfl) (fun _ _ _ h => h) (Or.inl ⟨by rfl, ?hy58⟩) hHeld ?_
     case hy58 => (intro w hSw; have hc : w.cell? ⟨P, 0, none⟩ = some (.int .i64 (s : Int)) := (hSw.2.1.cell 0 (.int .i64 c.self) rfl).trans (by rw [hcs]); clear hSw; go_simp; try with_reducible rfl)
     try simp only [yy]
     refine tkQ 6 hHeld ?_
     try simp only [yy]
     refine tkQ 7 hHeld ?_
     try simp only [yy]
     refine tkQ 8 hHeld ?_
     try simp only [yy]
     refine tkH 9 (v := ?v62) rfl (by kernel_rfl) (fun _ _ _ h => h) (Or.inl ⟨by rfl, ?hy62⟩) hHeld ?_
     case hy62 => (intro w hSw; have hc : w.cell? ⟨p, 0, none⟩ = some (.int .u32 ((c.peers d).inc : Int)) := hSw.1.cell 0 _ rfl; clear hSw; go_simp; try with_reducible rfl)
     try simp only [yy]
     refine tkQ 10 hHeld ?_
     try simp only [yy]
     refine tkQ 11 hHeld ?_
     try simp only [yy]
     refine tkH 12 (v := ?v65) rfl (by kernel_rfl) (fun _ _ _ h => h) (Or.inl ⟨by rfl, ?hy65⟩) hHeld ?_
     case hy65 => (intro w hSw; have hc := hSw.2.2.cell d _ (mbc_get m d hd); clear hSw; go_simp; try with_reducible rfl)
     try simp only [yy]
     refine tkQ 13 hHeld ?_
     try simp only [yy]
     refine tkQ 14 hHeld ?_
     try simp only [yy]
     refine tkQ 15 hHeld ?_
     try simp only [yy]
     refine tkQ 16 hHeld ?_
     try simp only [yy]
     refine' tkH 17 (v := _) rfl (by kernel_rfl) (fun _ _ _ h => h) (yieldsIf_load_mid (by rfl) _ _ rfl p 4 rfl (c.peers d).pr.vals _ ?hS70 Tryz.underlying51 rfl sizeIdn) hHeld ?_
     case hS70 => exact fun w h => h.1.range 4 _ (c.peers d).p_pr
     try simp only [yy]
     refine tkQ 18 hHeld ?_
     try simp only [yy]
     refine tkQ 19 hHeld ?_
     try simp only [yy]
     refine tkQ 20 hHeld ?_
     try simp only [yy]
     refine tkQ 21 hHeld ?_
     try simp only [yy]
     refine' tkH 22 (v := _) rfl (by kernel_rfl) (fun _ _ _ h => h) (yieldsIf_load_mid (by rfl) _ _ rfl P 40 rfl c.pr.vals _ ?hS75 Tryz.underlying51 rfl sizeIdn) hHeld ?_
     case hS75 => exact fun w h => h.2.1.range 40 _ (un_pr _ _)
     try simp only [yy]
     refine rd1 23 (fun K hK => ?_)
     go_simp
     go_wp2_with (refine (pc _).mono ?_; rintro r u1 ⟨rfl, hb⟩)
     have hL1 := hL0.below hb
     have hB1 := hB0.trans (hb.mono hB0.size)
     refine hK.out _ _ ⟨hHeld.1.below hb, hHeld.2.1.below hb, hHeld.2.2.below hb⟩ (fun hHeld => ?_)
     clear hK K hb hL0 hB0
     refine tkQ 24 hHeld ?_
     try simp only [yy]
     refine tkQ 25 hHeld ?_
     try simp only [yy]
     refine wpAnyH_done (by kernel_rfl) ?_ _
     have b3 := hHeld.1
     have bP := hHeld.2.1
     have a0 := hHeld.2.2
     have hL := hL1
     have hB := hB1
     clear hHeld hL1 hB1 b3
     cases t3 with
     | true =>
      obtain rfl : R = true := by rw [← HR.out]; exact any_yes _ L j d hk HQ.out
      clear HQ HR HA hk
      go_wp2_with fail
      go_ret
      exact ⟨rfl, hB⟩
     | false =>
      replace HA := any_take_no _ L j d hk HQ.out HA
      clear HQ hk
      go_wp2_with fail
      exact ⟨⟨j + 1, by omega, by go_num, HA, bP, a0, hL, hB⟩, by simp [intOf]; omega⟩
  ·obtain rfl : j = n := by omega
   rw [List.take_of_length_le (by rw [HN.out]; omega)] at HA
   obtain rfl : R = false := HR.out.symm.trans HA.out
   clear HR HN HM HA hL
   go_wp2_with fail
   go_ret
   exact ⟨rfl, hB⟩
set_option maxHeartbeats 4000000 in
theorem unsettled_ok (P : Nat) (c : Co) (v : Value) (s : Nat) (hs : s < 8) (hcs : c.self = (s : Int)) (m : Nat → Nat) (w : World) (b0 : Blk P (unc c v) 166 w) :
  Calls Tryz.prog 127 #[.pointer (some ⟨P, 0, none⟩), .agg (mbc m)] w fun e w' => e = .returned (.bool (unsB c m)) ∧ Below w.heap.size w w' := by
 have hP := b0.lt
 have a0 := blk_new w (mbc m) 55
 have hb := below_box w (.cells (mbc m) 55)
 have pg := gathers_ok c
 obtain ⟨t1, ht1⟩ : ∃ t, gathB c = t := ⟨_, rfl⟩
 obtain ⟨t2, ht2⟩ : ∃ t, mbSame m c.mem = t := ⟨_, rfl⟩
 have e : unsB c m = (t1 || !t2 || outB c m) := by rw [unsB, ht1, ht2]
 rw [e]
 rw [ht1] at pg
 have k2 : ∀ w, (binOp .neq 55 (.agg (row8 m).toArray) (.agg (row8 c.mem).toArray)).run Tryz.prog w = .ok (.bool (!t2)) w := neqMb m c.mem t2 ht2
 clear ht1 ht2 e
 go_enter Tryz.func127, Tryz.ntmps127
 go_upto_region 1 with fail
 generalize w.alloc (Obj.cells (mbc m) 55) = W at a0 hb ⊢
 have bP := b0.below hb
 have hB0 := hb.drew
 clear b0 hb
 cases t1 with
 | true =>
  clear k2
  refine wp_region_held_drew (S := fun w' => Blk P (unc c v) 166 w' ∧ Blk w.heap.size (mbc m) 55 w') (by kernel_rfl) ⟨bP.drew, a0.drew⟩ (fun hHeld => ?_)
  refine tkQ 0 hHeld ?_
  try simp only [yy]
  refine tkQ 1 hHeld ?_
  try simp only [yy]
  refine tkQ 2 hHeld ?_
  try simp only [yy]
  refine' tkH 3 (v := _) rfl (by kernel_rfl) (fun _ _ _ h => h) (yieldsIf_load_mid (by rfl) _ _ rfl P 0 rfl (col c) _ ?hS81 Tryz.underlying78 rfl sizeCo) hHeld ?_
  case hS81 => exact fun w h => h.1.range 0 _ (unc_core _ _)
  try simp only [yy]
  refine rd1 4 (fun K hK => ?_)
  go_simp
  go_wp2_with (refine (pg _).mono ?_; rintro r u1 ⟨rfl, hb⟩)
  have hB1 := hB0.trans (hb.mono hB0.size)
  refine hK.out _ _ ⟨hHeld.1.below hb, hHeld.2.below hb⟩ (fun hHeld => ?_)
  clear hK K hb hB0
  refine tkQ 5 hHeld ?_
  try simp only [yy]
  refine tkU 6 hHeld ?_
  try simp only [yy]
  refine tkU 7 hHeld ?_
  try simp only [yy]
  refine tkU 8 hHeld ?_
  try simp only [yy]
  refine tkU 9 hHeld ?_
  try simp only [yy]
  refine tkU 10 hHeld ?_
  try simp only [yy]
  refine tkU 11 hHeld ?_
  try simp only [yy]
  refine tkU 12 hHeld ?_
  try simp only [yy]
  refine tkQ 13 hHeld ?_
  try simp only [yy]
  refine tkQ 14 hHeld ?_
  try simp only [yy]
  refine tkU 15 hHeld ?_
  try simp only [yy]
  refine tkU 16 hHeld ?_
  try simp only [yy]
  refine tkU 17 hHeld ?_
  try simp only [yy]
  refine tkQ 18 hHeld ?_
  try simp only [yy]
  refine tkQ 19 hHeld ?_
  try simp only [yy]
  refine wpAnyH_done (by kernel_rfl) ?_ _
  go_wp2_with fail
  go_ret
  exact ⟨rfl, hB1⟩
 | false =>
  cases t2 with
  | false =>
   refine wp_region_held_drew (S := fun w' => Blk P (unc c v) 166 w' ∧ Blk w.heap.size (mbc m) 55 w') (by kernel_rfl) ⟨bP.drew, a0.drew⟩ (fun hHeld => ?_)
   refine tkQ 0 hHeld ?_
   try simp only [yy]
   refine tkQ 1 hHeld ?_
   try simp only [yy]
   refine tkQ 2 hHeld ?_
   try simp only [yy]
   refine' tkH 3 (v := _) rfl (by kernel_rfl) (fun _ _ _ h => h) (yieldsIf_load_mid (by rfl) _ _ rfl P 0 rfl (col c) _ ?hS100 Tryz.underlying78 rfl sizeCo) hHeld ?_
   case hS100 => exact fun w h => h.1.range 0 _ (unc_core _ _)
   try simp only [yy]
   refine rd1 4 (fun K hK => ?_)
   go_simp
   go_wp2_with (refine (pg _).mono ?_; rintro r u1 ⟨rfl, hb⟩)
   have hB1 := hB0.trans (hb.mono hB0.size)
   refine hK.out _ _ ⟨hHeld.1.below hb, hHeld.2.below hb⟩ (fun hHeld => ?_)
   clear hK K hb hB0
   refine tkQ 5 hHeld ?_
   try simp only [yy]
   refine' tkH 6 (v := _) rfl (by kernel_rfl) (fun _ _ _ h => h) (yieldsIf_load_mid (by rfl) _ _ rfl w.heap.size 0 rfl (row8 m) _ ?hS102 Tryz.underlying55 rfl sizeMb) hHeld ?_
   case hS102 => exact fun w h => h.2.whole
   try simp only [yy]
   refine tkQ 7 hHeld ?_
   try simp only [yy]
   refine tkQ 8 hHeld ?_
   try simp only [yy]
   refine tkQ 9 hHeld ?_
   try simp only [yy]
   refine tkQ 10 hHeld ?_
   try simp only [yy]
   refine' tkH 11 (v := _) rfl (by kernel_rfl) (fun _ _ _ h => h) (yieldsIf_load_mid (by rfl) _ _ rfl P 23 rfl (row8 c.mem) _ ?hS107 Tryz.underlying55 rfl sizeMb) hHeld ?_
   case hS107 => exact fun w h => h.1.range 23 _ (un_mem _ _)
   try simp only [yy]
   refine tkQ 12 hHeld ?_
   try simp only [yy]
   refine tkQ 13 hHeld ?_
   try simp only [yy]
   refine tkQ 14 hHeld ?_
   try simp only [yy]
   refine tkU 15 hHeld ?_
   try simp only [yy]
   refine tkU 16 hHeld ?_
   try simp only [yy]
   refine tkU 17 hHeld ?_
   try simp only [yy]
   refine tkQ 18 hHeld ?_
   try simp only [yy]
   refine tkQ 19 hHeld ?_
   try simp only [yy]
   refine wpAnyH_done (by kernel_rfl) ?_ _
   go_wp2_with fail
   go_ret
   exact ⟨rfl, hB1⟩
  | true =>
   refine wp_region_held_drew (S := fun w' => Blk P (unc c v) 166 w' ∧ Blk w.heap.size (mbc m) 55 w') (by kernel_rfl) ⟨bP.drew, a0.drew⟩ (fun hHeld => ?_)
   refine tkQ 0 hHeld ?_
   try simp only [yy]
   refine tkQ 1 hHeld ?_
   try simp only [yy]
   refine tkQ 2 hHeld ?_
   try simp only [yy]
   refine' tkH 3 (v := _) rfl (by kernel_rfl) (fun _ _ _ h => h) (yieldsIf_load_mid (by rfl) _ _ rfl P 0 rfl (col c) _ ?hS119 Tryz.underlying78 rfl sizeCo) hHeld ?_
   case hS119 => exact fun w h => h.1.range 0 _ (unc_core _ _)
   try simp only [yy]
   refine rd1 4 (fun K hK => ?_)
   go_simp
   go_wp2_with (refine (pg _).mono ?_; rintro r u1 ⟨rfl, hb⟩)
   have hB1 := hB0.trans (hb.mono hB0.size)
   refine hK.out _ _ ⟨hHeld.1.below hb, hHeld.2.below hb⟩ (fun hHeld => ?_)
   clear hK K hb hB0
   refine tkQ 5 hHeld ?_
   try simp only [yy]
   refine' tkH 6 (v := _) rfl (by kernel_rfl) (fun _ _ _ h => h) (yieldsIf_load_mid (by rfl) _ _ rfl w.heap.size 0 rfl (row8 m) _ ?hS121 Tryz.underlying55 rfl sizeMb) hHeld ?_
   case hS121 => exact fun w h => h.2.whole
   try simp only [yy]
   refine tkQ 7 hHeld ?_
   try simp only [yy]
   refine tkQ 8 hHeld ?_
   try simp only [yy]
   refine tkQ 9 hHeld ?_
   try simp only [yy]
   refine tkQ 10 hHeld ?_
   try simp only [yy]
   refine' tkH 11 (v := _) rfl (by kernel_rfl) (fun _ _ _ h => h) (yieldsIf_load_mid (by rfl) _ _ rfl P 23 rfl (row8 c.mem) _ ?hS126 Tryz.underlying55 rfl sizeMb) hHeld ?_
   case hS126 => exact fun w h => h.1.range 23 _ (un_mem _ _)
   try simp only [yy]
   refine tkQ 12 hHeld ?_
   try simp only [yy]
   refine tkQ 13 hHeld ?_
   try simp only [yy]
   refine tkQ 14 hHeld ?_
   try simp only [yy]
   refine tkQ 15 hHeld ?_
   try simp only [yy]
   refine' tkH 16 (v := _) rfl (by kernel_rfl) (fun _ _ _ h => h) (yieldsIf_load_mid (by rfl) _ _ rfl w.heap.size 0 rfl (row8 m) _ ?hS131 Tryz.underlying55 rfl sizeMb) hHeld ?_
   case hS131 => exact fun w h => h.2.whole
   try simp only [yy]
   refine rd1 17 (fun K hK => ?_)
   go_simp
   go_wp2_with (refine (outdone_ok P c v s hs hcs m _ hHeld.1).mono ?_; rintro r u2 ⟨rfl, hb⟩)
   have hB2 := hB1.trans (hb.mono hB1.size)
   refine hK.out _ _ ⟨hHeld.1.below hb, hHeld.2.below hb⟩ (fun hHeld => ?_)
   clear hK K hb hB1
   refine tkQ 18 hHeld ?_
   try simp only [yy]
   refine tkQ 19 hHeld ?_
   try simp only [yy]
   refine wpAnyH_done (by kernel_rfl) ?_ _
   go_wp2_with fail
   go_ret
   exact ⟨rfl, hB2⟩
end Go.Proofs.YthgfpdidilolgaaGreat
namespace Go.Proofs.YthgfpdidilolgaaGreat
set_option maxRecDepth 10000
open Go.RowKit Go.Sort
set_option linter.unusedVariables false
def FndN (q : Nat → Bool) (L : List Nat) (e : Ending) : Prop := (∃ j d, e = .returned (.int .i64 ((j : Nat) : Int)) ∧ L[j]? = some d ∧ q d = true ∧ ∀ k ∈ L.take j, q k = false) ∨ (e = .returned (.int .i64 (-1)) ∧ ∀ k ∈ L, q k = false)
set_option maxHeartbeats 1000000 in
theorem ixn1_ok (f : Nat) (v1 : Value) (q : Nat → Bool) (he : Enters f) (I : World → Prop) (hI : ∀ w w', I w → Below w.heap.size w w' → I w') (L : List Nat) (hf : ∀ d ∈ L, ∀ w, I w → Calls Tryz.prog f #[.int .i64 (d : Int), v1] w fun e w' => e = .returned (.bool (q d)) ∧ Below w.heap.size w w')
  (la : Option Addr) (lc : Nat) (lm : L.length ≤ 9223372036854775807) (w : World) (hS : Li nv 0 la L w) (hw : I w) : Calls Tryz.prog 218 #[.slice la L.length lc, .func (.func f) #[] #[v1]] w fun e w' => FndN q L e ∧ Below w.heap.size w w' := by
 obtain ⟨n, hn⟩ : ∃ n, L.length = n := ⟨_, rfl⟩
 rw [hn] at lm ⊢
 have HN : Hid (L.length = n) := hn
 clear hn
 go_enter Tryz.func218, Tryz.ntmps218
 go_wp2_with fail
 go_loopw [8] (fun iv wr => ∃ j : Nat, j ≤ n ∧ iv = .int .i64 j ∧ Hid (∀ k ∈ L.take j, q k = false) ∧ Li nv 0 la L wr ∧ I wr ∧ Below w.heap.size w wr) (fun iv _ => n - (intOf iv).toNat)
 case atStart => exact ⟨0, by omega, rfl, fun d h => by simp at h, hS, hw, Below.refl _ _⟩
 case round =>
  clear hS hw
  obtain ⟨j, hj, rfl, h0, hS, hX, hB⟩ := hrel
  by_cases hjn : j < n
  ·have j0 : (j : Int) < (n : Int) := by omega
   have j1 : (0 : Int) ≤ (j : Int) := by omega
   obtain ⟨d, hk⟩ : ∃ k, L[j]? = some k := ⟨_, List.getElem?_eq_getElem (by rw [HN.out]; exact hjn)⟩
   obtain ⟨b, o, rfl, _, hbl, hr⟩ := hS.at nv_length j d hk
   have c0 : wr.cell? ⟨b, o + j, none⟩ = some (.int .i64 (d : Int)) := by have := hr 0 _ rfl; simpa using this
   have pk := hf d (List.mem_of_getElem? hk) wr hX
   obtain ⟨t, ht⟩ : ∃ t, q d = t := ⟨_, rfl⟩
   have HT : Hid (q d = t) := ht
   rw [ht] at pk
   clear ht hr
   go_wp2_with fail
   rw [he, Oper.upon_enter]
   refine pk.mono ?_
   rintro r w1 ⟨rfl, hb⟩
   replace hS := hS.below hb
   replace hX := hI _ _ hX hb
   replace hB := hB.trans (hb.mono hB.size)
   clear hb pk c0
   cases t with
   | true =>
    have HF : FndN q L (.returned (.int .i64 (j : Int))) := .inl ⟨j, d, rfl, hk, HT.out, h0.out⟩
    clear HT h0 hk hS hX
    go_wp2_with fail
    go_ret
    exact ⟨HF, hB⟩
   | false =>
    have HS : Hid (∀ k ∈ L.take (j + 1), q k = false) := by
     intro e he
     rw [List.take_add_one, hk] at he
     rcases List.mem_append.1 he with he | he
     ·exact h0.out e he
     ·simp at he
      rw [he]
      exact HT.out
    clear HT h0 hk
    go_wp2_with fail
    exact ⟨⟨j + 1, by omega, by go_num, HS, hS, hX, hB⟩, by simp [intOf]; omega⟩
  ·obtain rfl : j = n := by omega
   have HF : FndN q L (.returned (.int .i64 (-1))) := .inr ⟨rfl, fun k hk => h0.out k (by rw [List.take_of_length_le (by rw [HN.out]; omega)]; exact hk)⟩
   clear h0 HN hS hX
   go_wp2_with fail
   go_ret
   exact ⟨HF, hB⟩
set_option maxHeartbeats 1000000 in
theorem ixn2_ok (f : Nat) (v1 v2 : Value) (q : Nat → Bool) (he : Enters f) (I : World → Prop) (hI : ∀ w w', I w → Below w.heap.size w w' → I w') (L : List Nat) (hf : ∀ d ∈ L, ∀ w, I w → Calls Tryz.prog f #[.int .i64 (d : Int), v1, v2] w fun e w' => e = .returned (.bool (q d)) ∧ Below w.heap.size w w')
  (la : Option Addr) (lc : Nat) (lm : L.length ≤ 9223372036854775807) (w : World) (hS : Li nv 0 la L w) (hw : I w) : Calls Tryz.prog 218 #[.slice la L.length lc, .func (.func f) #[] #[v1, v2]] w fun e w' => FndN q L e ∧ Below w.heap.size w w' := by
 obtain ⟨n, hn⟩ : ∃ n, L.length = n := ⟨_, rfl⟩
 rw [hn] at lm ⊢
 have HN : Hid (L.length = n) := hn
 clear hn
 go_enter Tryz.func218, Tryz.ntmps218
 go_wp2_with fail
 go_loopw [8] (fun iv wr => ∃ j : Nat, j ≤ n ∧ iv = .int .i64 j ∧ Hid (∀ k ∈ L.take j, q k = false) ∧ Li nv 0 la L wr ∧ I wr ∧ Below w.heap.size w wr) (fun iv _ => n - (intOf iv).toNat)
 case atStart => exact ⟨0, by omega, rfl, fun d h => by simp at h, hS, hw, Below.refl _ _⟩
 case round =>
  clear hS hw
  obtain ⟨j, hj, rfl, h0, hS, hX, hB⟩ := hrel
  by_cases hjn : j < n
  ·have j0 : (j : Int) < (n : Int) := by omega
   have j1 : (0 : Int) ≤ (j : Int) := by omega
   obtain ⟨d, hk⟩ : ∃ k, L[j]? = some k := ⟨_, List.getElem?_eq_getElem (by rw [HN.out]; exact hjn)⟩
   obtain ⟨b, o, rfl, _, hbl, hr⟩ := hS.at nv_length j d hk
   have c0 : wr.cell? ⟨b, o + j, none⟩ = some (.int .i64 (d : Int)) := by have := hr 0 _ rfl; simpa using this
   have pk := hf d (List.mem_of_getElem? hk) wr hX
   obtain ⟨t, ht⟩ : ∃ t, q d = t := ⟨_, rfl⟩
   have HT : Hid (q d = t) := ht
   rw [ht] at pk
   clear ht hr
   go_wp2_with fail
   rw [he, Oper.upon_enter]
   refine pk.mono ?_
   rintro r w1 ⟨rfl, hb⟩
   replace hS := hS.below hb
   replace hX := hI _ _ hX hb
   replace hB := hB.trans (hb.mono hB.size)
   clear hb pk c0
   cases t with
   | true =>
    have HF : FndN q L (.returned (.int .i64 (j : Int))) := .inl ⟨j, d, rfl, hk, HT.out, h0.out⟩
    clear HT h0 hk hS hX
    go_wp2_with fail
    go_ret
    exact ⟨HF, hB⟩
   | false =>
    have HS : Hid (∀ k ∈ L.take (j + 1), q k = false) := by
     intro e he
     rw [List.take_add_one, hk] at he
     rcases List.mem_append.1 he with he | he
     ·exact h0.out e he
     ·simp at he
      rw [he]
      exact HT.out
    clear HT h0 hk
    go_wp2_with fail
    exact ⟨⟨j + 1, by omega, by go_num, HS, hS, hX, hB⟩, by simp [intOf]; omega⟩
  ·obtain rfl : j = n := by omega
   have HF : FndN q L (.returned (.int .i64 (-1))) := .inr ⟨rfl, fun k hk => h0.out k (by rw [List.take_of_length_le (by rw [HN.out]; omega)]; exact hk)⟩
   clear h0 HN hS hX
   go_wp2_with fail
   go_ret
   exact ⟨HF, hB⟩
theorem con2_ok (f : Nat) (v1 v2 : Value) (q : Nat → Bool) (he : Enters f) (I : World → Prop) (hI : ∀ w w', I w → Below w.heap.size w w' → I w') (L : List Nat) (hf : ∀ d ∈ L, ∀ w, I w → Calls Tryz.prog f #[.int .i64 (d : Int), v1, v2] w fun e w' => e = .returned (.bool (q d)) ∧ Below w.heap.size w w')
  (la : Option Addr) (lc : Nat) (lm : L.length ≤ 9223372036854775807) (w : World) (hS : Li nv 0 la L w) (hw : I w) : Calls Tryz.prog 201 #[.slice la L.length lc, .func (.func f) #[] #[v1, v2]] w fun e w' => e = .returned (.bool (L.any q)) ∧ Below w.heap.size w w' := by
 obtain ⟨R, hR⟩ : ∃ R, Hid (L.any q = R) := ⟨_, rfl⟩
 rw [hR.out]
 have p0 := ixn2_ok f v1 v2 q he I hI L hf la lc lm w hS hw
 generalize hn : L.length = n at *
 go_enter Tryz.func201, Tryz.ntmps201
 go_wp2_with fail
 refine p0.mono ?_
 rintro r w1 ⟨hF, hB⟩
 clear p0 hS hw hn hf lm
 rcases hF with ⟨j, d, rfl, hj, hq, hall⟩ | ⟨rfl, hall⟩
 ·obtain rfl : R = true := by
   rw [← hR.out, List.any_eq_true]
   exact ⟨d, List.mem_of_getElem? hj, hq⟩
  have j1 : (0 : Int) ≤ (j : Int) := by omega
  clear hR hj hq hall
  go_wp2_with fail
  go_ret
  exact ⟨rfl, hB⟩
 ·obtain rfl : R = false := by
   rw [← hR.out, List.any_eq_false]
   intro d hd
   simp [hall d hd]
  clear hR hall
  go_wp2_with fail
  go_ret
  exact ⟨rfl, hB⟩
def keepN (q : Nat → Bool) (L : List Nat) : List Nat := L.filter fun d => !q d
theorem keepN_all (q : Nat → Bool) (L : List Nat) (h : ∀ k ∈ L, q k = false) : keepN q L = L := by
 unfold keepN
 rw [List.filter_eq_self]
 intro k hk
 rw [h k hk]; rfl
theorem keepN_yes (q : Nat → Bool) (d : Nat) (L : List Nat) (j : Nat) (hj : L[j]? = some d) (h : q d = true) : keepN q (L.take (j + 1)) = keepN q (L.take j) := by
 rw [List.take_add_one, hj]
 simp [keepN, h]
theorem keepN_no (q : Nat → Bool) (d : Nat) (L : List Nat) (j : Nat) (hj : L[j]? = some d) (h : q d = false) : keepN q (L.take (j + 1)) = keepN q (L.take j) ++ [d] := by
 rw [List.take_add_one, hj]
 simp [keepN, h]
theorem set_takeN (M : List Nat) (i : Nat) (k : Nat) (h : i < M.length) : (M.set i k).take (i + 1) = M.take i ++ [k] := by
 rw [List.take_add_one, List.getElem?_set_self h, List.take_set, List.set_eq_of_length_le (by simp; omega)]
 rfl
theorem elemInts : Tryz.prog.elem 93 = 3 := by kernel_rfl
theorem sizeOfInt (w : World) : (sizeOf 3).run Tryz.prog w = .ok 1 w := by kernel_rfl
theorem zeroOfInt (w : World) : (zeroValue 3).run Tryz.prog w = .ok (.int .i64 0) w := by kernel_rfl
theorem sizeInt : (Tryz.prog.info? 3).map (·.size) = some 1 := by kernel_rfl
def DelN (q : Nat → Bool) (L : List Nat) (B : Nat) (ad : Option Addr) (cap : Nat) (e : Ending) (w' : World) : Prop := e = .returned (.slice ad (keepN q L).length cap) ∧ Lg nv 1 3 B ad cap (keepN q L) w'
set_option maxHeartbeats 4000000 in
theorem deln_ok (f : Nat) (v1 : Value) (q : Nat → Bool) (he : Enters f) (I : World → Prop) (hI : ∀ w w', I w → Below w.heap.size w w' → I w') (L : List Nat) (hf : ∀ d ∈ L, ∀ w, I w → Calls Tryz.prog f #[.int .i64 (d : Int), v1] w fun e w' => e = .returned (.bool (q d)) ∧ Below w.heap.size w w')
  (B : Nat) (ad : Option Addr) (cap : Nat) (hIk : ∀ w w', I w → Kp (blkOf ad) w w' → I w') (w : World) (hG : Lg nv 1 3 B ad cap L w) (hX : I w) :
  Calls Tryz.prog 204 #[.slice ad L.length cap, .func (.func f) #[] #[v1]] w fun e w' => DelN q L B ad cap e w' ∧ Kp (blkOf ad) w w' := by
 have hlm : L.length ≤ 9223372036854775807 := by
  rcases hG with ⟨_, _, rfl⟩ | ⟨g, _, _, h⟩
  ·simp
  ·have := h.len; simp only [maxLen] at this; omega
 have pi := ixn1_ok f v1 q he I hI L hf ad cap hlm w (hG.li.mono (Nat.zero_le _)) hX
 obtain ⟨n, hn⟩ : ∃ n, L.length = n := ⟨_, rfl⟩
 rw [hn] at pi hlm ⊢
 have HN : Hid (L.length = n) := hn
 clear hn
 go_enter Tryz.func204, Tryz.ntmps204
 go_wp2_with fail
 refine pi.mono ?_
 rintro r w1 ⟨hF, hb⟩
 replace hG := hG.below hb
 replace hX := hI _ _ hX hb
 have hKp : Kp (blkOf ad) w w1 := Kp.of_below hb
 clear hb pi
 rcases hF with ⟨j0, k0, rfl, hj0, hp0, hall⟩ | ⟨rfl, hall⟩
 rotate_left
 ·have HD : DelN q L B ad cap (.returned (.slice ad n cap)) w1 := by
   have e := keepN_all q L hall
   refine ⟨by rw [e, HN.out], by rw [e]; exact hG⟩
  clear hG hX hall
  go_wp2_with fail
  go_ret
  exact ⟨HD, hKp⟩
 obtain ⟨g, rfl, hBg, hO⟩ : ∃ g, ad = some ⟨g, 0, none⟩ ∧ B ≤ g ∧ Ow nv 1 3 g cap L w1 := by
  rcases hG with ⟨_, _, rfl⟩ | h
  ·simp at hj0
  ·exact h
 have hKp : Kp [g] w w1 := hKp
 replace hIk : ∀ w w', I w → Kp [g] w w' → I w' := hIk
 have hj0n : j0 < n := by rw [← HN.out]; exact (List.getElem?_eq_some_iff.1 hj0).1
 have h0 : keepN q (L.take (j0 + 1)) = L.take j0 := by rw [keepN_yes q k0 L j0 hj0 hp0, keepN_all q _ hall]
 have hlj : (L.take j0).length = j0 := by rw [List.length_take, HN.out]; omega
 have hcap := hO.len
 rw [HN.out] at hcap
 have H0 : Hid ((keepN q (L.take (j0 + 1))).length = j0 ∧ L.take j0 = keepN q (L.take (j0 + 1))) := ⟨by rw [h0, hlj], h0.symm⟩
 have i0 : (((j0 : Nat) : Int) == -1) = false := by rw [beq_eq_false_iff_ne]; omega
 have j63 : (j0 : Int) + 1 ≤ 9223372036854775807 := by omega
 clear hall hp0 hj0 h0 hlj hG
 go_wp2_with fail
 clear i0 j63
 go_loopw [5, 6] (fun iv jv wr => ∃ (i j : Nat) (L' : List Nat), i < j ∧ j ≤ n ∧ iv = .int .i64 i ∧ jv = .int .i64 j ∧ Hid ((keepN q (L.take j)).length = i) ∧ Hid (L'.take i = keepN q (L.take j)) ∧ Hid (∀ p, j ≤ p → L'[p]? = L[p]?) ∧ Hid (L'.length = n) ∧ Ow nv 1 3 g cap L' wr ∧ I wr ∧ Kp [g] w wr) (fun _ jv _ => n - (intOf jv).toNat)
 case atStart => exact ⟨j0, j0 + 1, L, by omega, by omega, rfl, by go_num, H0.out.1, H0.out.2, fun _ _ => rfl, HN, hO, hX, hKp⟩
 case round =>
  clear hO hX hKp H0 hj0n
  obtain ⟨i, j, L', hij, hj, rfl, rfl, HI, HT, HR, HL, hO, hX, hKp⟩ := hrel
  by_cases hjn : j < n
  ·have j0 : (j : Int) < (n : Int) := by omega
   have j1 : (0 : Int) ≤ (j : Int) := by omega
   have i1 : (0 : Int) ≤ (i : Int) := by omega
   have i2 : (i : Int) < (n : Int) := by omega
   obtain ⟨k, hk⟩ : ∃ k, L[j]? = some k := ⟨_, List.getElem?_eq_getElem (by rw [HN.out]; exact hjn)⟩
   obtain ⟨b', o', e', _, _, hr⟩ := (hO.li (Nat.zero_le g)).at nv_length j k (by rw [HR.out j (Nat.le_refl _)]; exact hk)
   injection e' with e'
   injection e' with e1 e2 e3
   subst e1 e2
   have c0 : wr.cell? ⟨g, j, none⟩ = some (.int .i64 (k : Int)) := by have := hr 0 _ rfl; simpa using this
   obtain ⟨t, ht⟩ : ∃ t, q k = t := ⟨_, rfl⟩
   have HO : Hid (q k = t) := ht
   have pk := hf k (List.mem_of_getElem? hk) wr hX
   rw [ht] at pk
   clear ht hr
   go_wp2_with fail
   rw [he, Oper.upon_enter]
   refine pk.mono ?_
   rintro r w2 ⟨rfl, hb⟩
   replace hO := hO.below hb
   replace hX := hI _ _ hX hb
   replace hKp := hKp.trans (Kp.of_below (S := [g]) hb)
   clear hb pk c0
   cases t with
   | true =>
    have e := keepN_yes q k L j hk HO.out
    have HI2 : Hid ((keepN q (L.take (j + 1))).length = i) := by rw [e]; exact HI
    have HT2 : Hid (L'.take i = keepN q (L.take (j + 1))) := by rw [e]; exact HT
    have HR2 : Hid (∀ p, j + 1 ≤ p → L'[p]? = L[p]?) := fun p hp => HR.out p (by omega)
    clear e HI HT HR HO hk
    go_wp2_with fail
    exact ⟨⟨i, j + 1, L', by omega, by omega, rfl, by go_num, HI2, HT2, HR2, HL, hO, hX, hKp⟩, by simp [intOf]; omega⟩
   | false =>
    have e := keepN_no q k L j hk HO.out
    have HI2 : Hid ((keepN q (L.take (j + 1))).length = i + 1) := by
     show (keepN q (L.take (j + 1))).length = i + 1
     rw [e, List.length_append, HI.out]; rfl
    have HT2 : Hid ((L'.set i k).take (i + 1) = keepN q (L.take (j + 1))) := by
     show (L'.set i k).take (i + 1) = keepN q (L.take (j + 1))
     rw [e, ← HT.out, set_takeN L' i k (by rw [HL.out]; omega)]
    have HR2 : Hid (∀ p, j + 1 ≤ p → (L'.set i k)[p]? = L[p]?) := fun p hp => by
     rw [List.getElem?_set_ne (by omega)]
     exact HR.out p (by omega)
    have HL2 : Hid ((L'.set i k).length = n) := by
     show (L'.set i k).length = n
     rw [List.length_set]; exact HL.out
    obtain ⟨cur, hC, _, _, hsz, _⟩ := id hO
    have hoff : i + 1 ≤ cur.size := by rw [hsz]; omega
    have hiL : i < L'.length := by rw [HL.out]; omega
    clear e HI HT HR HO hk hsz
    go_wp2_with (refine store_one rfl 3 _ _ rfl (off := i) (.int .i64 (k : Int)) hC rfl rfl rfl rfl sizeInt hoff ?_; intro w3 b3 k3; have hO3 := hO.put nv_length (by decide) i hiL k hC (by rw [Nat.mul_one]; exact b3); have hX3 := hIk _ _ hX k3; have hKp3 := hKp.trans k3)
    exact ⟨⟨i + 1, j + 1, L'.set i k, by omega, by omega, by go_num, by go_num, HI2, HT2, HR2, HL2, hO3, hX3, hKp3⟩, by simp [intOf]; omega⟩
  ·obtain rfl : j = n := by omega
   have e : L.take j = L := List.take_of_length_le (by rw [HN.out]; omega)
   rw [e] at HI HT
   have i1 : (0 : Int) ≤ (i : Int) := by omega
   have i2 : (i : Int) ≤ (cap : Int) := by omega
   have i3 : (i : Int) ≤ (j : Int) := by omega
   obtain ⟨cur, hC, _, _, hsz, _⟩ := id hO
   have hs38 : i * 1 + (j - i) * 1 ≤ cur.size := by rw [hsz]; omega
   have hf38 : i * 1 + (flat nv (List.replicate (j - i) 0)).length ≤ cap * 1 := by rw [flat_length nv_length, List.length_replicate]; omega
   have hiL : i ≤ L'.length := by rw [HL.out]; omega
   clear e HR HN hsz
   go_wp2_with (first | refine cut_low (k := 1) rfl _ _ rfl Tryz.underlying93 elemInts sizeOfInt hij hcap.1 rfl rfl ?_ | (refine clear_at nv_length (by decide) nv_one 0 rfl _ rfl Tryz.underlying93 zeroOfInt rfl hC (by omega) hs38 rfl ?_; intro w3 b3 k3; have hO3 := hO.front nv_length i hiL _ hf38 hC b3; have hKp3 := hKp.trans k3))
   have HD : DelN q L B (some ⟨g, 0, none⟩) cap (.returned (.slice (some ⟨g, 0, none⟩) i cap)) w3 := by
    rw [HT.out] at hO3
    exact ⟨by rw [HI.out], Lg.of hO3 hBg⟩
   clear HI HT HL hO hO3 hC b3 hX
   go_ret
   exact ⟨HD, hKp3⟩
end Go.Proofs.YthgfpdidilolgaaGreat
