/-
  Of the texts beneath these laws, in their order: CeB.
  Each theorem says its own conditions.
-/
import Derived.Test.YthgfpdidilolgaaGreatZ18
import Derived.Test.YthgfpdidilolgaaGreatZ00
namespace Go.Proofs.YthgfpdidilolgaaGreat
set_option maxRecDepth 10000
set_option linter.unusedSimpArgs false
open Go.RowKit Go.Sort
set_option linter.unusedVariables false
def outQ (c : Co) (m : Nat → Nat) (d : Nat) : Bool := !decide ((d : Int) = c.self) && aboveB c m d
theorem outB_any (c : Co) (m : Nat → Nat) : outB c m = (lst m).any (outQ c m) := by
 unfold outB oth outQ
 rw [List.any_filter]
theorem any_take_no {α : Type} (q : α → Bool) (L : List α) (j : Nat) (d : α) (h : L[j]? = some d) (hq : q d = false) (ha : (L.take j).any q = false) : (L.take (j + 1)).any q = false := by
 rw [List.take_add_one, h]
 simp [ha, hq]
theorem any_yes {α : Type} (q : α → Bool) (L : List α) (j : Nat) (d : α) (h : L[j]? = some d) (hq : q d = true) : L.any q = true := List.any_eq_true.2 ⟨d, List.mem_of_getElem? h, hq⟩
set_option maxHeartbeats 8000000 in
theorem outdone_ok (P : Nat) (c : Co) (v : Value) (s : Nat) (hs : s < 8) (hcs : c.self = (s : Int)) (m : Nat → Nat) (w : World) (b0 : Blk P (unc c v) 166 w) :
  Calls Tryz.prog 160 #[.pointer (some ⟨P, 0, none⟩), .agg (mbc m)] w fun e w' => e = .returned (.bool (outB c m)) ∧ Below w.heap.size w w' := by
 have hP := b0.lt
 have a0 := blk_new w (mbc m) 55
 have hb := below_box w (.cells (mbc m) 55)
 obtain ⟨R, hR⟩ : ∃ R, Hid ((lst m).any (outQ c m) = R) := ⟨_, rfl⟩
 rw [outB_any, hR.out]
 go_enter Tryz.func160, Tryz.ntmps160
 go_upto_region 1 with fail
 generalize w.alloc (Obj.cells (mbc m) 55) = W at a0 hb ⊢
 have bP := b0.below hb
 have hB := hb
 clear b0 hb
 go_wp2_with (refine load_blk rfl 55 _ rfl a0 rfl Tryz.underlying55 rfl sizeMb ?_)
 refine (list_ok m _).mono ?_
 rintro r w1 ⟨⟨la, lc, rfl, hL⟩, hb⟩
 replace hL := hL.mono (Nat.zero_le _)
 replace a0 := a0.below hb
 replace bP := bP.below hb
 replace hB := hB.trans (hb.mono hB.size)
 clear hb 
 have hn8 := lst_len m
 obtain ⟨L, HL⟩ : ∃ L, Hid (lst m = L) := ⟨_, rfl⟩
 have HM : Hid (∀ d ∈ L, d < 8) := fun d hd => by rw [← HL.out] at hd; exact ((mem_lst _ _).1 hd).1
 rw [HL.out] at hL hn8 ⊢
 have HR : Hid (L.any (outQ c m) = R) := by rw [← HL.out]; exact hR
 clear HL hR
 obtain ⟨n, hn⟩ : ∃ n, L.length = n := ⟨_, rfl⟩
 rw [hn] at hn8 ⊢
 have HN : Hid (L.length = n) := hn
 clear hn
 go_wp2_with fail
 go_loopw [11] (fun iv wr => ∃ j : Nat, j ≤ n ∧ iv = .int .i64 j ∧ Hid ((L.take j).any (outQ c m) = false) ∧ Blk P (unc c v) 166 wr ∧ Blk w.heap.size (mbc m) 55 wr ∧ Li nv 0 la L wr ∧ Below w.heap.size w wr) (fun iv _ => n - (intOf iv).toNat)
 case atStart => exact ⟨0, by omega, rfl, rfl, bP, a0, hL, hB⟩
 case round =>
  clear bP a0 hL hB
  obtain ⟨j, hj, rfl, HA, bP, a0, hL, hB⟩ := hrel
  by_cases hjn : j < n
  ·have j0 : (j : Int) < (n : Int) := by omega
   have j1 : (0 : Int) ≤ (j : Int) := by omega
   obtain ⟨d, hk⟩ : ∃ k, L[j]? = some k := ⟨_, List.getElem?_eq_getElem (by rw [HN.out]; exact hjn)⟩
   have hd := HM.out d (List.mem_of_getElem? hk)
   obtain ⟨b, o, rfl, hvb, hbl, hr⟩ := hL.at nv_length j d hk
   have c0 : wr.cell? ⟨b, o + j, none⟩ = some (.int .i64 (d : Int)) := by have := hr 0 _ rfl; simpa using this
   have d1 : (0 : Int) ≤ (d : Int) := by omega
   have d2 : (d : Int) < 8 := by omega
   have pc := cmp_ok (c.peers d).pr c.pr
   obtain ⟨t1, ht1⟩ : ∃ t, decide ((d : Int) = c.self) = t := ⟨_, rfl⟩
   obtain ⟨t2, ht2⟩ : ∃ t, decide ((c.peers d).inc = m d) = t := ⟨_, rfl⟩
   obtain ⟨t3, ht3⟩ : ∃ t, decide (0 < cmpId (c.peers d).pr c.pr) = t := ⟨_, rfl⟩
   have HQ : Hid (outQ c m d = (!t1 && (t2 && t3))) := by show outQ c m d = _; rw [outQ, aboveB, ht1, ht2, ht3]
   generalize cmpId (c.peers d).pr c.pr = k at pc ht3
   have k1 : ((d : Int) == (s : Int)) = t1 := by rw [← ht1, hcs, Bool.eq_iff_iff, beq_iff_eq, decide_eq_true_iff]
   have k1' : ((d : Int) != (s : Int)) = !t1 := by rw [bne, k1]
   have k2 : (((c.peers d).inc : Int) == (m d : Int)) = t2 := by rw [← ht2, Bool.eq_iff_iff, beq_iff_eq, decide_eq_true_iff]; omega
   have hp := un_peer c v d hd
   clear ht1 ht2 hr
   have hb := below_box wr (.cells (c.peers d).arr 75)
   have b3 := blk_new wr (c.peers d).arr 75
   go_upto_region 5 with (first | refine load_part rfl 75 _ rfl (o := 60 + d * 16) bP rfl (c.peers d).vals hp Tryz.underlying75 rfl sizePe ?_ | refine alloc_zero zeroPe rfl rfl ?_ | refine store_new rfl 75 _ _ rfl (cells := (c.peers d).arr) rfl rfl sizePe rfl (Pe.arr_one _) ?_)
   try simp only [Act.put, List.setIfInBounds_toArray, List.set_cons_zero, List.set_cons_succ]
   generalize wr.alloc (Obj.cells (c.peers d).arr 75) = W3 at b3 hb ⊢
   replace bP := bP.below hb
   replace a0 := a0.below hb
   replace hL := hL.below hb
   replace hB := hB.trans (hb.mono hB.size)
   clear hb c0 hp
   generalize wr.heap.size = p at b3 hbl ⊢
   have hL0 := hL.below (Below.refl _ _).drew
   have hB0 := hB.drew
   clear hL hB
   cases t1 with
   | true =>
    clear k2 ht3 pc
    refine wp_region_held_drew (S := fun w' => Blk p (c.peers d).arr 75 w' ∧ Blk P (unc c v) 166 w' ∧ Blk w.heap.size (mbc m) 55 w') (by kernel_rfl) ⟨b3.drew, bP.drew, a0.drew⟩ (fun hHeld => ?_)
    refine tkH 0 (v := ?v1) rfl (by kernel_rfl) (fun _ _ _ h => h) (Or.inl ⟨by rfl, ?hy1⟩) hHeld ?_
    case hy1 => (intro w hSw; clear hSw; go_simp; try with_reducible rfl)
    try simp only [yA, yB, yC, Act.put, yD, yE, yF]
    refine tkH 1 (v := ?v2) rfl (by kernel_rfl) (fun _ _ _ h => h) (Or.inl ⟨by rfl, ?hy2⟩) hHeld ?_
    case hy2 => (intro w hSw; clear hSw; go_simp; try with_reducible rfl)
    try simp only [yA, yB, yC, Act.put, yD, yE, yF]
    refine tkH 2 (v := ?v3) rfl (by kernel_rfl) (fun _ _ _ h => h) (Or.inl ⟨by rfl, ?hy3⟩) hHeld ?_
    case hy3 => (intro w hSw; clear hSw; go_simp; try with_reducible rfl)
    try simp only [yA, yB, yC, Act.put, yD, yE, yF]
    refine tkH 3 (v := ?v4) rfl (by kernel_rfl) (fun _ _ _ h => h) (Or.inl ⟨by rfl, ?hy4⟩) hHeld ?_
    case hy4 => (intro w hSw; clear hSw; go_simp; try with_reducible rfl)
    try simp only [yA, yB, yC, Act.put, yD, yE, yF]
    refine tkH 4 (v := ?v5) rfl (by kernel_rfl) (fun _ _ _ h => h) (Or.inl ⟨by rfl, ?hy5⟩) hHeld ?_
    case hy5 => (intro w hSw; clear hSw; go_simp; try with_reducible rfl)
    try simp only [yA, yB, yC, Act.put, yD, yE, yF]
    refine tkH 5 (v := ?v6) rfl (by kernel_rfl) (fun _ _ _ h => h) (Or.inl ⟨by rfl, ?hy6⟩) hHeld ?_
    case hy6 => (intro w hSw; have hc : w.cell? ⟨P, 0, none⟩ = some (.int .i64 (s : Int)) := (hSw.2.1.cell 0 (.int .i64 c.self) rfl).trans (by rw [hcs]); clear hSw; go_simp; try with_reducible rfl)
    try simp only [yA, yB, yC, Act.put, yD, yE, yF]
    refine tkH 6 (v := ?v7) rfl (by kernel_rfl) (fun _ _ _ h => h) (Or.inl ⟨by rfl, ?hy7⟩) hHeld ?_
    case hy7 => (intro w hSw; clear hSw; go_simp; try with_reducible rfl)
    try simp only [yA, yB, yC, Act.put, yD, yE, yF]
    refine tkH 7 (v := ?v8) rfl (by kernel_rfl) (fun _ _ _ h => h) (Or.inl ⟨by rfl, ?hy8⟩) hHeld ?_
    case hy8 => (intro w hSw; clear hSw; go_simp; try with_reducible rfl)
    try simp only [yA, yB, yC, Act.put, yD, yE, yF]
    refine tkH 8 (v := undef) rfl (by kernel_rfl) (fun _ _ _ h => h) (Or.inr ⟨by rfl, rfl⟩) hHeld ?_
    try simp only [yA, yB, yC, Act.put, yD, yE, yF]
    refine tkH 9 (v := undef) rfl (by kernel_rfl) (fun _ _ _ h => h) (Or.inr ⟨by rfl, rfl⟩) hHeld ?_
    try simp only [yA, yB, yC, Act.put, yD, yE, yF]
    refine tkH 10 (v := undef) rfl (by kernel_rfl) (fun _ _ _ h => h) (Or.inr ⟨by rfl, rfl⟩) hHeld ?_
    try simp only [yA, yB, yC, Act.put, yD, yE, yF]
    refine tkH 11 (v := undef) rfl (by kernel_rfl) (fun _ _ _ h => h) (Or.inr ⟨by rfl, rfl⟩) hHeld ?_
    try simp only [yA, yB, yC, Act.put, yD, yE, yF]
    refine tkH 12 (v := undef) rfl (by kernel_rfl) (fun _ _ _ h => h) (Or.inr ⟨by rfl, rfl⟩) hHeld ?_
    try simp only [yA, yB, yC, Act.put, yD, yE, yF]
    refine tkH 13 (v := undef) rfl (by kernel_rfl) (fun _ _ _ h => h) (Or.inr ⟨by rfl, rfl⟩) hHeld ?_
    try simp only [yA, yB, yC, Act.put, yD, yE, yF]
    refine tkH 14 (v := ?v15) rfl (by kernel_rfl) (fun _ _ _ h => h) (Or.inl ⟨by rfl, ?hy15⟩) hHeld ?_
    case hy15 => (intro w hSw; clear hSw; go_simp; try with_reducible rfl)
    try simp only [yA, yB, yC, Act.put, yD, yE, yF]
    refine tkH 15 (v := ?v16) rfl (by kernel_rfl) (fun _ _ _ h => h) (Or.inl ⟨by rfl, ?hy16⟩) hHeld ?_
    case hy16 => (intro w hSw; clear hSw; go_simp; try with_reducible rfl)
    try simp only [yA, yB, yC, Act.put, yD, yE, yF]
    refine tkH 16 (v := undef) rfl (by kernel_rfl) (fun _ _ _ h => h) (Or.inr ⟨by rfl, rfl⟩) hHeld ?_
    try simp only [yA, yB, yC, Act.put, yD, yE, yF]
    refine tkH 17 (v := undef) rfl (by kernel_rfl) (fun _ _ _ h => h) (Or.inr ⟨by rfl, rfl⟩) hHeld ?_
    try simp only [yA, yB, yC, Act.put, yD, yE, yF]
    refine tkH 18 (v := undef) rfl (by kernel_rfl) (fun _ _ _ h => h) (Or.inr ⟨by rfl, rfl⟩) hHeld ?_
    try simp only [yA, yB, yC, Act.put, yD, yE, yF]
    refine tkH 19 (v := undef) rfl (by kernel_rfl) (fun _ _ _ h => h) (Or.inr ⟨by rfl, rfl⟩) hHeld ?_
    try simp only [yA, yB, yC, Act.put, yD, yE, yF]
    refine tkH 20 (v := undef) rfl (by kernel_rfl) (fun _ _ _ h => h) (Or.inr ⟨by rfl, rfl⟩) hHeld ?_
    try simp only [yA, yB, yC, Act.put, yD, yE, yF]
    refine tkH 21 (v := undef) rfl (by kernel_rfl) (fun _ _ _ h => h) (Or.inr ⟨by rfl, rfl⟩) hHeld ?_
    try simp only [yA, yB, yC, Act.put, yD, yE, yF]
    refine tkH 22 (v := undef) rfl (by kernel_rfl) (fun _ _ _ h => h) (Or.inr ⟨by rfl, rfl⟩) hHeld ?_
    try simp only [yA, yB, yC, Act.put, yD, yE, yF]
    refine tkH 23 (v := undef) rfl (by kernel_rfl) (fun _ _ _ h => h) (Or.inr ⟨by rfl, rfl⟩) hHeld ?_
    try simp only [yA, yB, yC, Act.put, yD, yE, yF]
    refine tkH 24 (v := undef) rfl (by kernel_rfl) (fun _ _ _ h => h) (Or.inr ⟨by rfl, rfl⟩) hHeld ?_
    try simp only [yA, yB, yC, Act.put, yD, yE, yF]
    refine tkH 25 (v := ?v26) rfl (by kernel_rfl) (fun _ _ _ h => h) (Or.inl ⟨by rfl, ?hy26⟩) hHeld ?_
    case hy26 => (intro w hSw; clear hSw; go_simp; try with_reducible rfl)
    try simp only [yA, yB, yC, Act.put, yD, yE, yF]
    refine wpAnyH_done (by kernel_rfl) ?_ _
    have b3 := hHeld.1
    have bP := hHeld.2.1
    have a0 := hHeld.2.2
    have hL := hL0
    have hB := hB0
    clear hHeld hL0 hB0 b3
    replace HA := any_take_no _ L j d hk HQ.out HA
    clear HQ hk
    go_wp2_with fail
    exact ⟨⟨j + 1, by omega, by go_num, HA, bP, a0, hL, hB⟩, by simp [intOf]; omega⟩
   | false =>
    cases t2 with
    | false =>
     clear ht3 pc
     refine wp_region_held_drew (S := fun w' => Blk p (c.peers d).arr 75 w' ∧ Blk P (unc c v) 166 w' ∧ Blk w.heap.size (mbc m) 55 w') (by kernel_rfl) ⟨b3.drew, bP.drew, a0.drew⟩ (fun hHeld => ?_)
     refine tkH 0 (v := ?v27) rfl (by kernel_rfl) (fun _ _ _ h => h) (Or.inl ⟨by rfl, ?hy27⟩) hHeld ?_
     case hy27 => (intro w hSw; clear hSw; go_simp; try with_reducible rfl)
     try simp only [yA, yB, yC, Act.put, yD, yE, yF]
     refine tkH 1 (v := ?v28) rfl (by kernel_rfl) (fun _ _ _ h => h) (Or.inl ⟨by rfl, ?hy28⟩) hHeld ?_
     case hy28 => (intro w hSw; clear hSw; go_simp; try with_reducible rfl)
     try simp only [yA, yB, yC, Act.put, yD, yE, yF]
     refine tkH 2 (v := ?v29) rfl (by kernel_rfl) (fun _ _ _ h => h) (Or.inl ⟨by rfl, ?hy29⟩) hHeld ?_
     case hy29 => (intro w hSw; clear hSw; go_simp; try with_reducible rfl)
     try simp only [yA, yB, yC, Act.put, yD, yE, yF]
     refine tkH 3 (v := ?v30) rfl (by kernel_rfl) (fun _ _ _ h => h) (Or.inl ⟨by rfl, ?hy30⟩) hHeld ?_
     case hy30 => (intro w hSw; clear hSw; go_simp; try with_reducible rfl)
     try simp only [yA, yB, yC, Act.put, yD, yE, yF]
     refine tkH 4 (v := ?v31) rfl (by kernel_rfl) (fun _ _ _ h => h) (Or.inl ⟨by rfl, ?hy31⟩) hHeld ?_
     case hy31 => (intro w hSw; clear hSw; go_simp; try with_reducible rfl)
     try simp only [yA, yB, yC, Act.put, yD, yE, yF]
     refine tkH 5 (v := ?v32) rfl (by kernel_rfl) (fun _ _ _ h => h) (Or.inl ⟨by rfl, ?hy32⟩) hHeld ?_
     case hy32 => (intro w hSw; have hc : w.cell? ⟨P, 0, none⟩ = some (.int .i64 (s : Int)) := (hSw.2.1.cell 0 (.int .i64 c.self) rfl).trans (by rw [hcs]); clear hSw; go_simp; try with_reducible rfl)
     try simp only [yA, yB, yC, Act.put, yD, yE, yF]
     refine tkH 6 (v := ?v33) rfl (by kernel_rfl) (fun _ _ _ h => h) (Or.inl ⟨by rfl, ?hy33⟩) hHeld ?_
     case hy33 => (intro w hSw; clear hSw; go_simp; try with_reducible rfl)
     try simp only [yA, yB, yC, Act.put, yD, yE, yF]
     refine tkH 7 (v := ?v34) rfl (by kernel_rfl) (fun _ _ _ h => h) (Or.inl ⟨by rfl, ?hy34⟩) hHeld ?_
     case hy34 => (intro w hSw; clear hSw; go_simp; try with_reducible rfl)
     try simp only [yA, yB, yC, Act.put, yD, yE, yF]
     refine tkH 8 (v := ?v35) rfl (by kernel_rfl) (fun _ _ _ h => h) (Or.inl ⟨by rfl, ?hy35⟩) hHeld ?_
     case hy35 => (intro w hSw; clear hSw; go_simp; try with_reducible rfl)
     try simp only [yA, yB, yC, Act.put, yD, yE, yF]
     refine tkH 9 (v := ?v36) rfl (by kernel_rfl) (fun _ _ _ h => h) (Or.inl ⟨by rfl, ?hy36⟩) hHeld ?_
     case hy36 => (intro w hSw; have hc : w.cell? ⟨p, 0, none⟩ = some (.int .u32 ((c.peers d).inc : Int)) := hSw.1.cell 0 _ rfl; clear hSw; go_simp; try with_reducible rfl)
     try simp only [yA, yB, yC, Act.put, yD, yE, yF]
     refine tkH 10 (v := ?v37) rfl (by kernel_rfl) (fun _ _ _ h => h) (Or.inl ⟨by rfl, ?hy37⟩) hHeld ?_
     case hy37 => (intro w hSw; clear hSw; go_simp; try with_reducible rfl)
     try simp only [yA, yB, yC, Act.put, yD, yE, yF]
     refine tkH 11 (v := ?v38) rfl (by kernel_rfl) (fun _ _ _ h => h) (Or.inl ⟨by rfl, ?hy38⟩) hHeld ?_
     case hy38 => (intro w hSw; clear hSw; go_simp; try with_reducible rfl)
     try simp only [yA, yB, yC, Act.put, yD, yE, yF]
     refine tkH 12 (v := ?v39) rfl (by kernel_rfl) (fun _ _ _ h => h) (Or.inl ⟨by rfl, ?hy39⟩) hHeld ?_
     case hy39 => (intro w hSw; have hc := hSw.2.2.cell d _ (mbc_get m d hd); clear hSw; go_simp; try with_reducible rfl)
     try simp only [yA, yB, yC, Act.put, yD, yE, yF]
     refine tkH 13 (v := ?v40) rfl (by kernel_rfl) (fun _ _ _ h => h) (Or.inl ⟨by rfl, ?hy40⟩) hHeld ?_
     case hy40 => (intro w hSw; clear hSw; go_simp; try with_reducible rfl)
     try simp only [yA, yB, yC, Act.put, yD, yE, yF]
     refine tkH 14 (v := ?v41) rfl (by kernel_rfl) (fun _ _ _ h => h) (Or.inl ⟨by rfl, ?hy41⟩) hHeld ?_
     case hy41 => (intro w hSw; clear hSw; go_simp; try with_reducible rfl)
     try simp only [yA, yB, yC, Act.put, yD, yE, yF]
     refine tkH 15 (v := ?v42) rfl (by kernel_rfl) (fun _ _ _ h => h) (Or.inl ⟨by rfl, ?hy42⟩) hHeld ?_
     case hy42 => (intro w hSw; clear hSw; go_simp; try with_reducible rfl)
     try simp only [yA, yB, yC, Act.put, yD, yE, yF]
     refine tkH 16 (v := undef) rfl (by kernel_rfl) (fun _ _ _ h => h) (Or.inr ⟨by rfl, rfl⟩) hHeld ?_
     try simp only [yA, yB, yC, Act.put, yD, yE, yF]
     refine tkH 17 (v := undef) rfl (by kernel_rfl) (fun _ _ _ h => h) (Or.inr ⟨by rfl, rfl⟩) hHeld ?_
     try simp only [yA, yB, yC, Act.put, yD, yE, yF]
     refine tkH 18 (v := undef) rfl (by kernel_rfl) (fun _ _ _ h => h) (Or.inr ⟨by rfl, rfl⟩) hHeld ?_
     try simp only [yA, yB, yC, Act.put, yD, yE, yF]
     refine tkH 19 (v := undef) rfl (by kernel_rfl) (fun _ _ _ h => h) (Or.inr ⟨by rfl, rfl⟩) hHeld ?_
     try simp only [yA, yB, yC, Act.put, yD, yE, yF]
     refine tkH 20 (v := undef) rfl (by kernel_rfl) (fun _ _ _ h => h) (Or.inr ⟨by rfl, rfl⟩) hHeld ?_
     try simp only [yA, yB, yC, Act.put, yD, yE, yF]
     refine tkH 21 (v := undef) rfl (by kernel_rfl) (fun _ _ _ h => h) (Or.inr ⟨by rfl, rfl⟩) hHeld ?_
     try simp only [yA, yB, yC, Act.put, yD, yE, yF]
     refine tkH 22 (v := undef) rfl (by kernel_rfl) (fun _ _ _ h => h) (Or.inr ⟨by rfl, rfl⟩) hHeld ?_
     try simp only [yA, yB, yC, Act.put, yD, yE, yF]
     refine tkH 23 (v := undef) rfl (by kernel_rfl) (fun _ _ _ h => h) (Or.inr ⟨by rfl, rfl⟩) hHeld ?_
     try simp only [yA, yB, yC, Act.put, yD, yE, yF]
     refine tkH 24 (v := undef) rfl (by kernel_rfl) (fun _ _ _ h => h) (Or.inr ⟨by rfl, rfl⟩) hHeld ?_
     try simp only [yA, yB, yC, Act.put, yD, yE, yF]
     refine tkH 25 (v := ?v52) rfl (by kernel_rfl) (fun _ _ _ h => h) (Or.inl ⟨by rfl, ?hy52⟩) hHeld ?_
     case hy52 => (intro w hSw; clear hSw; go_simp; try with_reducible rfl)
     try simp only [yA, yB, yC, Act.put, yD, yE, yF]
     refine wpAnyH_done (by kernel_rfl) ?_ _
     have b3 := hHeld.1
     have bP := hHeld.2.1
     have a0 := hHeld.2.2
     have hL := hL0
     have hB := hB0
     clear hHeld hL0 hB0 b3
     replace HA := any_take_no _ L j d hk HQ.out HA
     clear HQ hk
     go_wp2_with fail
     exact ⟨⟨j + 1, by omega, by go_num, HA, bP, a0, hL, hB⟩, by simp [intOf]; omega⟩
    | true =>
     refine wp_region_held_drew (S := fun w' => Blk p (c.peers d).arr 75 w' ∧ Blk P (unc c v) 166 w' ∧ Blk w.heap.size (mbc m) 55 w') (by kernel_rfl) ⟨b3.drew, bP.drew, a0.drew⟩ (fun hHeld => ?_)
     refine tkH 0 (v := ?v53) rfl (by kernel_rfl) (fun _ _ _ h => h) (Or.inl ⟨by rfl, ?hy53⟩) hHeld ?_
     case hy53 => (intro w hSw; clear hSw; go_simp; try with_reducible rfl)
     try simp only [yA, yB, yC, Act.put, yD, yE, yF]
     refine tkH 1 (v := ?v54) rfl (by kernel_rfl) (fun _ _ _ h => h) (Or.inl ⟨by rfl, ?hy54⟩) hHeld ?_
     case hy54 => (intro w hSw; clear hSw; go_simp; try with_reducible rfl)
     try simp only [yA, yB, yC, Act.put, yD, yE, yF]
     refine tkH 2 (v := ?v55) rfl (by kernel_rfl) (fun _ _ _ h => h) (Or.inl ⟨by rfl, ?hy55⟩) hHeld ?_
     case hy55 => (intro w hSw; clear hSw; go_simp; try with_reducible rfl)
     try simp only [yA, yB, yC, Act.put, yD, yE, yF]
     refine tkH 3 (v := ?v56) rfl (by kernel_rfl) (fun _ _ _ h => h) (Or.inl ⟨by rfl, ?hy56⟩) hHeld ?_
     case hy56 => (intro w hSw; clear hSw; go_simp; try with_reducible rfl)
     try simp only [yA, yB, yC, Act.put, yD, yE, yF]
     refine tkH 4 (v := ?v57) rfl (by kernel_rfl) (fun _ _ _ h => h) (Or.inl ⟨by rfl, ?hy57⟩) hHeld ?_
     case hy57 => (intro w hSw; clear hSw; go_simp; try with_reducible rfl)
     try simp only [yA, yB, yC, Act.put, yD, yE, yF]
     refine tkH 5 (v := ?v58) rfl (by kernel_rfl) (fun _ _ _ h => h) (Or.inl ⟨by rfl, ?hy58⟩) hHeld ?_
     case hy58 => (intro w hSw; have hc : w.cell? ⟨P, 0, none⟩ = some (.int .i64 (s : Int)) := (hSw.2.1.cell 0 (.int .i64 c.self) rfl).trans (by rw [hcs]); clear hSw; go_simp; try with_reducible rfl)
     try simp only [yA, yB, yC, Act.put, yD, yE, yF]
     refine tkH 6 (v := ?v59) rfl (by kernel_rfl) (fun _ _ _ h => h) (Or.inl ⟨by rfl, ?hy59⟩) hHeld ?_
     case hy59 => (intro w hSw; clear hSw; go_simp; try with_reducible rfl)
     try simp only [yA, yB, yC, Act.put, yD, yE, yF]
     refine tkH 7 (v := ?v60) rfl (by kernel_rfl) (fun _ _ _ h => h) (Or.inl ⟨by rfl, ?hy60⟩) hHeld ?_
     case hy60 => (intro w hSw; clear hSw; go_simp; try with_reducible rfl)
     try simp only [yA, yB, yC, Act.put, yD, yE, yF]
     refine tkH 8 (v := ?v61) rfl (by kernel_rfl) (fun _ _ _ h => h) (Or.inl ⟨by rfl, ?hy61⟩) hHeld ?_
     case hy61 => (intro w hSw; clear hSw; go_simp; try with_reducible rfl)
     try simp only [yA, yB, yC, Act.put, yD, yE, yF]
     refine tkH 9 (v := ?v62) rfl (by kernel_rfl) (fun _ _ _ h => h) (Or.inl ⟨by rfl, ?hy62⟩) hHeld ?_
     case hy62 => (intro w hSw; have hc : w.cell? ⟨p, 0, none⟩ = some (.int .u32 ((c.peers d).inc : Int)) := hSw.1.cell 0 _ rfl; clear hSw; go_simp; try with_reducible rfl)
     try simp only [yA, yB, yC, Act.put, yD, yE, yF]
     refine tkH 10 (v := ?v63) rfl (by kernel_rfl) (fun _ _ _ h => h) (Or.inl ⟨by rfl, ?hy63⟩) hHeld ?_
     case hy63 => (intro w hSw; clear hSw; go_simp; try with_reducible rfl)
     try simp only [yA, yB, yC, Act.put, yD, yE, yF]
     refine tkH 11 (v := ?v64) rfl (by kernel_rfl) (fun _ _ _ h => h) (Or.inl ⟨by rfl, ?hy64⟩) hHeld ?_
     case hy64 => (intro w hSw; clear hSw; go_simp; try with_reducible rfl)
     try simp only [yA, yB, yC, Act.put, yD, yE, yF]
     refine tkH 12 (v := ?v65) rfl (by kernel_rfl) (fun _ _ _ h => h) (Or.inl ⟨by rfl, ?hy65⟩) hHeld ?_
     case hy65 => (intro w hSw; have hc := hSw.2.2.cell d _ (mbc_get m d hd); clear hSw; go_simp; try with_reducible rfl)
     try simp only [yA, yB, yC, Act.put, yD, yE, yF]
     refine tkH 13 (v := ?v66) rfl (by kernel_rfl) (fun _ _ _ h => h) (Or.inl ⟨by rfl, ?hy66⟩) hHeld ?_
     case hy66 => (intro w hSw; clear hSw; go_simp; try with_reducible rfl)
     try simp only [yA, yB, yC, Act.put, yD, yE, yF]
     refine tkH 14 (v := ?v67) rfl (by kernel_rfl) (fun _ _ _ h => h) (Or.inl ⟨by rfl, ?hy67⟩) hHeld ?_
     case hy67 => (intro w hSw; clear hSw; go_simp; try with_reducible rfl)
     try simp only [yA, yB, yC, Act.put, yD, yE, yF]
     refine tkH 15 (v := ?v68) rfl (by kernel_rfl) (fun _ _ _ h => h) (Or.inl ⟨by rfl, ?hy68⟩) hHeld ?_
     case hy68 => (intro w hSw; clear hSw; go_simp; try with_reducible rfl)
     try simp only [yA, yB, yC, Act.put, yD, yE, yF]
     refine tkH 16 (v := ?v69) rfl (by kernel_rfl) (fun _ _ _ h => h) (Or.inl ⟨by rfl, ?hy69⟩) hHeld ?_
     case hy69 => (intro w hSw; clear hSw; go_simp; try with_reducible rfl)
     try simp only [yA, yB, yC, Act.put, yD, yE, yF]
     refine' tkH 17 (v := _) rfl (by kernel_rfl) (fun _ _ _ h => h) (yieldsIf_load_mid (by rfl) _ _ rfl p 4 rfl (c.peers d).pr.vals _ ?hS70 Tryz.underlying51 rfl sizeIdn) hHeld ?_
     case hS70 => exact fun w h => h.1.range 4 _ (c.peers d).p_pr
     try simp only [yA, yB, yC, Act.put, yD, yE, yF]
     refine tkH 18 (v := ?v71) rfl (by kernel_rfl) (fun _ _ _ h => h) (Or.inl ⟨by rfl, ?hy71⟩) hHeld ?_
     case hy71 => (intro w hSw; clear hSw; go_simp; try with_reducible rfl)
     try simp only [yA, yB, yC, Act.put, yD, yE, yF]
     refine tkH 19 (v := ?v72) rfl (by kernel_rfl) (fun _ _ _ h => h) (Or.inl ⟨by rfl, ?hy72⟩) hHeld ?_
     case hy72 => (intro w hSw; clear hSw; go_simp; try with_reducible rfl)
     try simp only [yA, yB, yC, Act.put, yD, yE, yF]
     refine tkH 20 (v := ?v73) rfl (by kernel_rfl) (fun _ _ _ h => h) (Or.inl ⟨by rfl, ?hy73⟩) hHeld ?_
     case hy73 => (intro w hSw; clear hSw; go_simp; try with_reducible rfl)
     try simp only [yA, yB, yC, Act.put, yD, yE, yF]
     refine tkH 21 (v := ?v74) rfl (by kernel_rfl) (fun _ _ _ h => h) (Or.inl ⟨by rfl, ?hy74⟩) hHeld ?_
     case hy74 => (intro w hSw; clear hSw; go_simp; try with_reducible rfl)
     try simp only [yA, yB, yC, Act.put, yD, yE, yF]
     refine' tkH 22 (v := _) rfl (by kernel_rfl) (fun _ _ _ h => h) (yieldsIf_load_mid (by rfl) _ _ rfl P 40 rfl c.pr.vals _ ?hS75 Tryz.underlying51 rfl sizeIdn) hHeld ?_
     case hS75 => exact fun w h => h.2.1.range 40 _ (un_pr _ _)
     try simp only [yA, yB, yC, Act.put, yD, yE, yF]
     refine wpAnyH_ready (rs := [23]) (by kernel_rfl) (by simp) ?_
     refine AllReadyH.cons rfl (fun K hK => ?_) (AllReadyH.nil)
     go_simp
     go_wp2_with (refine (pc _).mono ?_; rintro r u1 ⟨rfl, hb⟩)
     have hL1 := hL0.below hb
     have hB1 := hB0.trans (hb.mono hB0.size)
     refine hK.out _ _ ⟨hHeld.1.below hb, hHeld.2.1.below hb, hHeld.2.2.below hb⟩ (fun hHeld => ?_)
     clear hK K hb hL0 hB0
     refine tkH 24 (v := ?v76) rfl (by kernel_rfl) (fun _ _ _ h => h) (Or.inl ⟨by rfl, ?hy76⟩) hHeld ?_
     case hy76 => (intro w hSw; clear hSw; go_simp; try with_reducible rfl)
     try simp only [yA, yB, yC, Act.put, yD, yE, yF]
     refine tkH 25 (v := ?v77) rfl (by kernel_rfl) (fun _ _ _ h => h) (Or.inl ⟨by rfl, ?hy77⟩) hHeld ?_
     case hy77 => (intro w hSw; clear hSw; go_simp; try with_reducible rfl)
     try simp only [yA, yB, yC, Act.put, yD, yE, yF]
     refine wpAnyH_done (by kernel_rfl) ?_ _
     have b3 := hHeld.1
     have bP := hHeld.2.1
     have a0 := hHeld.2.2
     have hL := hL1
     have hB := hB1
     clear hHeld hL1 hB1 b3
     cases t3 with
     | true =>
      obtain rfl : R = true := by rw [← HR.out]; exact any_yes _ L j d hk HQ.out
      clear HQ HR HA hk
      go_wp2_with fail
      go_ret
      exact ⟨rfl, hB⟩
     | false =>
      replace HA := any_take_no _ L j d hk HQ.out HA
      clear HQ hk
      go_wp2_with fail
      exact ⟨⟨j + 1, by omega, by go_num, HA, bP, a0, hL, hB⟩, by simp [intOf]; omega⟩
  ·obtain rfl : j = n := by omega
   rw [List.take_of_length_le (by rw [HN.out]; omega)] at HA
   obtain rfl : R = false := HR.out.symm.trans HA.out
   clear HR HN HM HA hL
   go_wp2_with fail
   go_ret
   exact ⟨rfl, hB⟩
set_option maxHeartbeats 4000000 in
theorem unsettled_ok (P : Nat) (c : Co) (v : Value) (s : Nat) (hs : s < 8) (hcs : c.self = (s : Int)) (m : Nat → Nat) (w : World) (b0 : Blk P (unc c v) 166 w) :
  Calls Tryz.prog 127 #[.pointer (some ⟨P, 0, none⟩), .agg (mbc m)] w fun e w' => e = .returned (.bool (unsB c m)) ∧ Below w.heap.size w w' := by
 have hP := b0.lt
 have a0 := blk_new w (mbc m) 55
 have hb := below_box w (.cells (mbc m) 55)
 have pg := gathers_ok c
 obtain ⟨t1, ht1⟩ : ∃ t, gathB c = t := ⟨_, rfl⟩
 obtain ⟨t2, ht2⟩ : ∃ t, mbSame m c.mem = t := ⟨_, rfl⟩
 have e : unsB c m = (t1 || !t2 || outB c m) := by rw [unsB, ht1, ht2]
 rw [e]
 rw [ht1] at pg
 have k2 : ∀ w, (binOp .neq 55 (.agg (row8 m).toArray) (.agg (row8 c.mem).toArray)).run Tryz.prog w = .ok (.bool (!t2)) w := neqMb m c.mem t2 ht2
 clear ht1 ht2 e
 go_enter Tryz.func127, Tryz.ntmps127
 go_upto_region 1 with fail
 generalize w.alloc (Obj.cells (mbc m) 55) = W at a0 hb ⊢
 have bP := b0.below hb
 have hB0 := hb.drew
 clear b0 hb
 cases t1 with
 | true =>
  clear k2
  refine wp_region_held_drew (S := fun w' => Blk P (unc c v) 166 w' ∧ Blk w.heap.size (mbc m) 55 w') (by kernel_rfl) ⟨bP.drew, a0.drew⟩ (fun hHeld => ?_)
  refine tkH 0 (v := ?v78) rfl (by kernel_rfl) (fun _ _ _ h => h) (Or.inl ⟨by rfl, ?hy78⟩) hHeld ?_
  case hy78 => (intro w hSw; clear hSw; go_simp; try with_reducible rfl)
  try simp only [yA, yB, yC, Act.put, yD, yE, yF]
  refine tkH 1 (v := ?v79) rfl (by kernel_rfl) (fun _ _ _ h => h) (Or.inl ⟨by rfl, ?hy79⟩) hHeld ?_
  case hy79 => (intro w hSw; clear hSw; go_simp; try with_reducible rfl)
  try simp only [yA, yB, yC, Act.put, yD, yE, yF]
  refine tkH 2 (v := ?v80) rfl (by kernel_rfl) (fun _ _ _ h => h) (Or.inl ⟨by rfl, ?hy80⟩) hHeld ?_
  case hy80 => (intro w hSw; clear hSw; go_simp; try with_reducible rfl)
  try simp only [yA, yB, yC, Act.put, yD, yE, yF]
  refine' tkH 3 (v := _) rfl (by kernel_rfl) (fun _ _ _ h => h) (yieldsIf_load_mid (by rfl) _ _ rfl P 0 rfl (col c) _ ?hS81 Tryz.underlying78 rfl sizeCo) hHeld ?_
  case hS81 => exact fun w h => h.1.range 0 _ (unc_core _ _)
  try simp only [yA, yB, yC, Act.put, yD, yE, yF]
  refine wpAnyH_ready (rs := [4]) (by kernel_rfl) (by simp) ?_
  refine AllReadyH.cons rfl (fun K hK => ?_) (AllReadyH.nil)
  go_simp
  go_wp2_with (refine (pg _).mono ?_; rintro r u1 ⟨rfl, hb⟩)
  have hB1 := hB0.trans (hb.mono hB0.size)
  refine hK.out _ _ ⟨hHeld.1.below hb, hHeld.2.below hb⟩ (fun hHeld => ?_)
  clear hK K hb hB0
  refine tkH 5 (v := ?v82) rfl (by kernel_rfl) (fun _ _ _ h => h) (Or.inl ⟨by rfl, ?hy82⟩) hHeld ?_
  case hy82 => (intro w hSw; clear hSw; go_simp; try with_reducible rfl)
  try simp only [yA, yB, yC, Act.put, yD, yE, yF]
  refine tkH 6 (v := undef) rfl (by kernel_rfl) (fun _ _ _ h => h) (Or.inr ⟨by rfl, rfl⟩) hHeld ?_
  try simp only [yA, yB, yC, Act.put, yD, yE, yF]
  refine tkH 7 (v := undef) rfl (by kernel_rfl) (fun _ _ _ h => h) (Or.inr ⟨by rfl, rfl⟩) hHeld ?_
  try simp only [yA, yB, yC, Act.put, yD, yE, yF]
  refine tkH 8 (v := undef) rfl (by kernel_rfl) (fun _ _ _ h => h) (Or.inr ⟨by rfl, rfl⟩) hHeld ?_
  try simp only [yA, yB, yC, Act.put, yD, yE, yF]
  refine tkH 9 (v := undef) rfl (by kernel_rfl) (fun _ _ _ h => h) (Or.inr ⟨by rfl, rfl⟩) hHeld ?_
  try simp only [yA, yB, yC, Act.put, yD, yE, yF]
  refine tkH 10 (v := undef) rfl (by kernel_rfl) (fun _ _ _ h => h) (Or.inr ⟨by rfl, rfl⟩) hHeld ?_
  try simp only [yA, yB, yC, Act.put, yD, yE, yF]
  refine tkH 11 (v := undef) rfl (by kernel_rfl) (fun _ _ _ h => h) (Or.inr ⟨by rfl, rfl⟩) hHeld ?_
  try simp only [yA, yB, yC, Act.put, yD, yE, yF]
  refine tkH 12 (v := undef) rfl (by kernel_rfl) (fun _ _ _ h => h) (Or.inr ⟨by rfl, rfl⟩) hHeld ?_
  try simp only [yA, yB, yC, Act.put, yD, yE, yF]
  refine tkH 13 (v := ?v90) rfl (by kernel_rfl) (fun _ _ _ h => h) (Or.inl ⟨by rfl, ?hy90⟩) hHeld ?_
  case hy90 => (intro w hSw; clear hSw; go_simp; try with_reducible rfl)
  try simp only [yA, yB, yC, Act.put, yD, yE, yF]
  refine tkH 14 (v := ?v91) rfl (by kernel_rfl) (fun _ _ _ h => h) (Or.inl ⟨by rfl, ?hy91⟩) hHeld ?_
  case hy91 => (intro w hSw; clear hSw; go_simp; try with_reducible rfl)
  try simp only [yA, yB, yC, Act.put, yD, yE, yF]
  refine tkH 15 (v := undef) rfl (by kernel_rfl) (fun _ _ _ h => h) (Or.inr ⟨by rfl, rfl⟩) hHeld ?_
  try simp only [yA, yB, yC, Act.put, yD, yE, yF]
  refine tkH 16 (v := undef) rfl (by kernel_rfl) (fun _ _ _ h => h) (Or.inr ⟨by rfl, rfl⟩) hHeld ?_
  try simp only [yA, yB, yC, Act.put, yD, yE, yF]
  refine tkH 17 (v := undef) rfl (by kernel_rfl) (fun _ _ _ h => h) (Or.inr ⟨by rfl, rfl⟩) hHeld ?_
  try simp only [yA, yB, yC, Act.put, yD, yE, yF]
  refine tkH 18 (v := ?v95) rfl (by kernel_rfl) (fun _ _ _ h => h) (Or.inl ⟨by rfl, ?hy95⟩) hHeld ?_
  case hy95 => (intro w hSw; clear hSw; go_simp; try with_reducible rfl)
  try simp only [yA, yB, yC, Act.put, yD, yE, yF]
  refine tkH 19 (v := ?v96) rfl (by kernel_rfl) (fun _ _ _ h => h) (Or.inl ⟨by rfl, ?hy96⟩) hHeld ?_
  case hy96 => (intro w hSw; clear hSw; go_simp; try with_reducible rfl)
  try simp only [yA, yB, yC, Act.put, yD, yE, yF]
  refine wpAnyH_done (by kernel_rfl) ?_ _
  go_wp2_with fail
  go_ret
  exact ⟨rfl, hB1⟩
 | false =>
  cases t2 with
  | false =>
   refine wp_region_held_drew (S := fun w' => Blk P (unc c v) 166 w' ∧ Blk w.heap.size (mbc m) 55 w') (by kernel_rfl) ⟨bP.drew, a0.drew⟩ (fun hHeld => ?_)
   refine tkH 0 (v := ?v97) rfl (by kernel_rfl) (fun _ _ _ h => h) (Or.inl ⟨by rfl, ?hy97⟩) hHeld ?_
   case hy97 => (intro w hSw; clear hSw; go_simp; try with_reducible rfl)
   try simp only [yA, yB, yC, Act.put, yD, yE, yF]
   refine tkH 1 (v := ?v98) rfl (by kernel_rfl) (fun _ _ _ h => h) (Or.inl ⟨by rfl, ?hy98⟩) hHeld ?_
   case hy98 => (intro w hSw; clear hSw; go_simp; try with_reducible rfl)
   try simp only [yA, yB, yC, Act.put, yD, yE, yF]
   refine tkH 2 (v := ?v99) rfl (by kernel_rfl) (fun _ _ _ h => h) (Or.inl ⟨by rfl, ?hy99⟩) hHeld ?_
   case hy99 => (intro w hSw; clear hSw; go_simp; try with_reducible rfl)
   try simp only [yA, yB, yC, Act.put, yD, yE, yF]
   refine' tkH 3 (v := _) rfl (by kernel_rfl) (fun _ _ _ h => h) (yieldsIf_load_mid (by rfl) _ _ rfl P 0 rfl (col c) _ ?hS100 Tryz.underlying78 rfl sizeCo) hHeld ?_
   case hS100 => exact fun w h => h.1.range 0 _ (unc_core _ _)
   try simp only [yA, yB, yC, Act.put, yD, yE, yF]
   refine wpAnyH_ready (rs := [4]) (by kernel_rfl) (by simp) ?_
   refine AllReadyH.cons rfl (fun K hK => ?_) (AllReadyH.nil)
   go_simp
   go_wp2_with (refine (pg _).mono ?_; rintro r u1 ⟨rfl, hb⟩)
   have hB1 := hB0.trans (hb.mono hB0.size)
   refine hK.out _ _ ⟨hHeld.1.below hb, hHeld.2.below hb⟩ (fun hHeld => ?_)
   clear hK K hb hB0
   refine tkH 5 (v := ?v101) rfl (by kernel_rfl) (fun _ _ _ h => h) (Or.inl ⟨by rfl, ?hy101⟩) hHeld ?_
   case hy101 => (intro w hSw; clear hSw; go_simp; try with_reducible rfl)
   try simp only [yA, yB, yC, Act.put, yD, yE, yF]
   refine' tkH 6 (v := _) rfl (by kernel_rfl) (fun _ _ _ h => h) (yieldsIf_load_mid (by rfl) _ _ rfl w.heap.size 0 rfl (row8 m) _ ?hS102 Tryz.underlying55 rfl sizeMb) hHeld ?_
   case hS102 => exact fun w h => h.2.whole
   try simp only [yA, yB, yC, Act.put, yD, yE, yF]
   refine tkH 7 (v := ?v103) rfl (by kernel_rfl) (fun _ _ _ h => h) (Or.inl ⟨by rfl, ?hy103⟩) hHeld ?_
   case hy103 => (intro w hSw; clear hSw; go_simp; try with_reducible rfl)
   try simp only [yA, yB, yC, Act.put, yD, yE, yF]
   refine tkH 8 (v := ?v104) rfl (by kernel_rfl) (fun _ _ _ h => h) (Or.inl ⟨by rfl, ?hy104⟩) hHeld ?_
   case hy104 => (intro w hSw; clear hSw; go_simp; try with_reducible rfl)
   try simp only [yA, yB, yC, Act.put, yD, yE, yF]
   refine tkH 9 (v := ?v105) rfl (by kernel_rfl) (fun _ _ _ h => h) (Or.inl ⟨by rfl, ?hy105⟩) hHeld ?_
   case hy105 => (intro w hSw; clear hSw; go_simp; try with_reducible rfl)
   try simp only [yA, yB, yC, Act.put, yD, yE, yF]
   refine tkH 10 (v := ?v106) rfl (by kernel_rfl) (fun _ _ _ h => h) (Or.inl ⟨by rfl, ?hy106⟩) hHeld ?_
   case hy106 => (intro w hSw; clear hSw; go_simp; try with_reducible rfl)
   try simp only [yA, yB, yC, Act.put, yD, yE, yF]
   refine' tkH 11 (v := _) rfl (by kernel_rfl) (fun _ _ _ h => h) (yieldsIf_load_mid (by rfl) _ _ rfl P 23 rfl (row8 c.mem) _ ?hS107 Tryz.underlying55 rfl sizeMb) hHeld ?_
   case hS107 => exact fun w h => h.1.range 23 _ (un_mem _ _)
   try simp only [yA, yB, yC, Act.put, yD, yE, yF]
   refine tkH 12 (v := ?v108) rfl (by kernel_rfl) (fun _ _ _ h => h) (Or.inl ⟨by rfl, ?hy108⟩) hHeld ?_
   case hy108 => (intro w hSw; clear hSw; go_simp; try with_reducible rfl)
   try simp only [yA, yB, yC, Act.put, yD, yE, yF]
   refine tkH 13 (v := ?v109) rfl (by kernel_rfl) (fun _ _ _ h => h) (Or.inl ⟨by rfl, ?hy109⟩) hHeld ?_
   case hy109 => (intro w hSw; clear hSw; go_simp; try with_reducible rfl)
   try simp only [yA, yB, yC, Act.put, yD, yE, yF]
   refine tkH 14 (v := ?v110) rfl (by kernel_rfl) (fun _ _ _ h => h) (Or.inl ⟨by rfl, ?hy110⟩) hHeld ?_
   case hy110 => (intro w hSw; clear hSw; go_simp; try with_reducible rfl)
   try simp only [yA, yB, yC, Act.put, yD, yE, yF]
   refine tkH 15 (v := undef) rfl (by kernel_rfl) (fun _ _ _ h => h) (Or.inr ⟨by rfl, rfl⟩) hHeld ?_
   try simp only [yA, yB, yC, Act.put, yD, yE, yF]
   refine tkH 16 (v := undef) rfl (by kernel_rfl) (fun _ _ _ h => h) (Or.inr ⟨by rfl, rfl⟩) hHeld ?_
   try simp only [yA, yB, yC, Act.put, yD, yE, yF]
   refine tkH 17 (v := undef) rfl (by kernel_rfl) (fun _ _ _ h => h) (Or.inr ⟨by rfl, rfl⟩) hHeld ?_
   try simp only [yA, yB, yC, Act.put, yD, yE, yF]
   refine tkH 18 (v := ?v114) rfl (by kernel_rfl) (fun _ _ _ h => h) (Or.inl ⟨by rfl, ?hy114⟩) hHeld ?_
   case hy114 => (intro w hSw; clear hSw; go_simp; try with_reducible rfl)
   try simp only [yA, yB, yC, Act.put, yD, yE, yF]
   refine tkH 19 (v := ?v115) rfl (by kernel_rfl) (fun _ _ _ h => h) (Or.inl ⟨by rfl, ?hy115⟩) hHeld ?_
   case hy115 => (intro w hSw; clear hSw; go_simp; try with_reducible rfl)
   try simp only [yA, yB, yC, Act.put, yD, yE, yF]
   refine wpAnyH_done (by kernel_rfl) ?_ _
   go_wp2_with fail
   go_ret
   exact ⟨rfl, hB1⟩
  | true =>
   refine wp_region_held_drew (S := fun w' => Blk P (unc c v) 166 w' ∧ Blk w.heap.size (mbc m) 55 w') (by kernel_rfl) ⟨bP.drew, a0.drew⟩ (fun hHeld => ?_)
   refine tkH 0 (v := ?v116) rfl (by kernel_rfl) (fun _ _ _ h => h) (Or.inl ⟨by rfl, ?hy116⟩) hHeld ?_
   case hy116 => (intro w hSw; clear hSw; go_simp; try with_reducible rfl)
   try simp only [yA, yB, yC, Act.put, yD, yE, yF]
   refine tkH 1 (v := ?v117) rfl (by kernel_rfl) (fun _ _ _ h => h) (Or.inl ⟨by rfl, ?hy117⟩) hHeld ?_
   case hy117 => (intro w hSw; clear hSw; go_simp; try with_reducible rfl)
   try simp only [yA, yB, yC, Act.put, yD, yE, yF]
   refine tkH 2 (v := ?v118) rfl (by kernel_rfl) (fun _ _ _ h => h) (Or.inl ⟨by rfl, ?hy118⟩) hHeld ?_
   case hy118 => (intro w hSw; clear hSw; go_simp; try with_reducible rfl)
   try simp only [yA, yB, yC, Act.put, yD, yE, yF]
   refine' tkH 3 (v := _) rfl (by kernel_rfl) (fun _ _ _ h => h) (yieldsIf_load_mid (by rfl) _ _ rfl P 0 rfl (col c) _ ?hS119 Tryz.underlying78 rfl sizeCo) hHeld ?_
   case hS119 => exact fun w h => h.1.range 0 _ (unc_core _ _)
   try simp only [yA, yB, yC, Act.put, yD, yE, yF]
   refine wpAnyH_ready (rs := [4]) (by kernel_rfl) (by simp) ?_
   refine AllReadyH.cons rfl (fun K hK => ?_) (AllReadyH.nil)
   go_simp
   go_wp2_with (refine (pg _).mono ?_; rintro r u1 ⟨rfl, hb⟩)
   have hB1 := hB0.trans (hb.mono hB0.size)
   refine hK.out _ _ ⟨hHeld.1.below hb, hHeld.2.below hb⟩ (fun hHeld => ?_)
   clear hK K hb hB0
   refine tkH 5 (v := ?v120) rfl (by kernel_rfl) (fun _ _ _ h => h) (Or.inl ⟨by rfl, ?hy120⟩) hHeld ?_
   case hy120 => (intro w hSw; clear hSw; go_simp; try with_reducible rfl)
   try simp only [yA, yB, yC, Act.put, yD, yE, yF]
   refine' tkH 6 (v := _) rfl (by kernel_rfl) (fun _ _ _ h => h) (yieldsIf_load_mid (by rfl) _ _ rfl w.heap.size 0 rfl (row8 m) _ ?hS121 Tryz.underlying55 rfl sizeMb) hHeld ?_
   case hS121 => exact fun w h => h.2.whole
   try simp only [yA, yB, yC, Act.put, yD, yE, yF]
   refine tkH 7 (v := ?v122) rfl (by kernel_rfl) (fun _ _ _ h => h) (Or.inl ⟨by rfl, ?hy122⟩) hHeld ?_
   case hy122 => (intro w hSw; clear hSw; go_simp; try with_reducible rfl)
   try simp only [yA, yB, yC, Act.put, yD, yE, yF]
   refine tkH 8 (v := ?v123) rfl (by kernel_rfl) (fun _ _ _ h => h) (Or.inl ⟨by rfl, ?hy123⟩) hHeld ?_
   case hy123 => (intro w hSw; clear hSw; go_simp; try with_reducible rfl)
   try simp only [yA, yB, yC, Act.put, yD, yE, yF]
   refine tkH 9 (v := ?v124) rfl (by kernel_rfl) (fun _ _ _ h => h) (Or.inl ⟨by rfl, ?hy124⟩) hHeld ?_
   case hy124 => (intro w hSw; clear hSw; go_simp; try with_reducible rfl)
   try simp only [yA, yB, yC, Act.put, yD, yE, yF]
   refine tkH 10 (v := ?v125) rfl (by kernel_rfl) (fun _ _ _ h => h) (Or.inl ⟨by rfl, ?hy125⟩) hHeld ?_
   case hy125 => (intro w hSw; clear hSw; go_simp; try with_reducible rfl)
   try simp only [yA, yB, yC, Act.put, yD, yE, yF]
   refine' tkH 11 (v := _) rfl (by kernel_rfl) (fun _ _ _ h => h) (yieldsIf_load_mid (by rfl) _ _ rfl P 23 rfl (row8 c.mem) _ ?hS126 Tryz.underlying55 rfl sizeMb) hHeld ?_
   case hS126 => exact fun w h => h.1.range 23 _ (un_mem _ _)
   try simp only [yA, yB, yC, Act.put, yD, yE, yF]
   refine tkH 12 (v := ?v127) rfl (by kernel_rfl) (fun _ _ _ h => h) (Or.inl ⟨by rfl, ?hy127⟩) hHeld ?_
   case hy127 => (intro w hSw; clear hSw; go_simp; try with_reducible rfl)
   try simp only [yA, yB, yC, Act.put, yD, yE, yF]
   refine tkH 13 (v := ?v128) rfl (by kernel_rfl) (fun _ _ _ h => h) (Or.inl ⟨by rfl, ?hy128⟩) hHeld ?_
   case hy128 => (intro w hSw; clear hSw; go_simp; try with_reducible rfl)
   try simp only [yA, yB, yC, Act.put, yD, yE, yF]
   refine tkH 14 (v := ?v129) rfl (by kernel_rfl) (fun _ _ _ h => h) (Or.inl ⟨by rfl, ?hy129⟩) hHeld ?_
   case hy129 => (intro w hSw; clear hSw; go_simp; try with_reducible rfl)
   try simp only [yA, yB, yC, Act.put, yD, yE, yF]
   refine tkH 15 (v := ?v130) rfl (by kernel_rfl) (fun _ _ _ h => h) (Or.inl ⟨by rfl, ?hy130⟩) hHeld ?_
   case hy130 => (intro w hSw; clear hSw; go_simp; try with_reducible rfl)
   try simp only [yA, yB, yC, Act.put, yD, yE, yF]
   refine' tkH 16 (v := _) rfl (by kernel_rfl) (fun _ _ _ h => h) (yieldsIf_load_mid (by rfl) _ _ rfl w.heap.size 0 rfl (row8 m) _ ?hS131 Tryz.underlying55 rfl sizeMb) hHeld ?_
   case hS131 => exact fun w h => h.2.whole
   try simp only [yA, yB, yC, Act.put, yD, yE, yF]
   refine wpAnyH_ready (rs := [17]) (by kernel_rfl) (by simp) ?_
   refine AllReadyH.cons rfl (fun K hK => ?_) (AllReadyH.nil)
   go_simp
   go_wp2_with (refine (outdone_ok P c v s hs hcs m _ hHeld.1).mono ?_; rintro r u2 ⟨rfl, hb⟩)
   have hB2 := hB1.trans (hb.mono hB1.size)
   refine hK.out _ _ ⟨hHeld.1.below hb, hHeld.2.below hb⟩ (fun hHeld => ?_)
   clear hK K hb hB1
   refine tkH 18 (v := ?v132) rfl (by kernel_rfl) (fun _ _ _ h => h) (Or.inl ⟨by rfl, ?hy132⟩) hHeld ?_
   case hy132 => (intro w hSw; clear hSw; go_simp; try with_reducible rfl)
   try simp only [yA, yB, yC, Act.put, yD, yE, yF]
   refine tkH 19 (v := ?v133) rfl (by kernel_rfl) (fun _ _ _ h => h) (Or.inl ⟨by rfl, ?hy133⟩) hHeld ?_
   case hy133 => (intro w hSw; clear hSw; go_simp; try with_reducible rfl)
   try simp only [yA, yB, yC, Act.put, yD, yE, yF]
   refine wpAnyH_done (by kernel_rfl) ?_ _
   go_wp2_with fail
   go_ret
   exact ⟨rfl, hB2⟩
end Go.Proofs.YthgfpdidilolgaaGreat
