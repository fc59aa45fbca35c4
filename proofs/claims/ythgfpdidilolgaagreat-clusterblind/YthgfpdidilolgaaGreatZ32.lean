/-
  Of the texts beneath these laws, in their order: ClQ, ClR.
  Each theorem says its own conditions.
-/
import Derived.Test.YthgfpdidilolgaaGreatZ31
namespace Go.Proofs.YthgfpdidilolgaaGreat
set_option maxRecDepth 10000
set_option linter.unusedSimpArgs false
open Go.RowKit Go.Sort
set_option linter.unusedVariables false
def Ran (J : Cs → Prop) (B : Nat) (e : Ending) (w' : World) : Prop :=
 ∃ S g cc u uc la lc ta tc, e = .returned (.tuple #[.agg (clc S.wait (.slice (some ⟨g, 0, none⟩) S.cs.length cc) (.slice (some ⟨u, 0, none⟩) S.up.length uc) (.slice la S.ls.length lc)), .slice ta S.t.length tc]) ∧ J S ∧ S.t.length ≤ tc ∧ Li Td.vals B ta S.t w'
theorem ua_cl (wt : Int) (c u l t : Value) : ((uac wt c u l t).extract 0 (0 + (clc wt c u l).toList.length)).toList = (clc wt c u l).toList := rfl
def De.ok (d : De) : Prop := (-9223372036854775808 ≤ d.ix ∧ d.ix ≤ 9223372036854775807) ∧ d.at_ ≤ 9223372036854775807 ∧ d.m < 4294967296
set_option maxHeartbeats 8000000 in
theorem run_ok (J : Nat → Cs → Prop) (wt : Int) (cs : List (Co × List Kt)) (up : List Bool) (ls : List Le) (ca ua : Addr) (la0 : Option Addr) (cc0 uc0 lc0 : Nat) (D : List De) (da : Option Addr) (dc : Nat) (w : World) (hc : Li cov 0 (some ca) cs w) (hu : Li bvl 0 (some ua) up w) (hl : Li Le.vals 0 la0 ls w)
  (hn8 : cs.length ≤ 8) (hu8 : up.length ≤ 8) (hl8 : ls.length ≤ 4096) (he : ∀ x ∈ cs, x.2 = [] ∧ x.1.ka = none ∧ x.1.kn = 0 ∧ x.1.kc = 0) (hD : Li De.vals 0 da D w) (hDn : D.length ≤ 150) (hDo : ∀ d ∈ D, d.ok)
  (J0 : ∀ CS, Kps cs CS → J 0 ⟨wt, CS, up, ls, []⟩) (hg : ∀ k S, k ≤ D.length → J k S → ∃ (Q : Pw → Prop) (m : Nat), Gd m S ∧ m + 4 ≤ 1000000 ∧ (∀ l ∈ S.ls, Tx Q l.t ∧ l.small) ∧ ∀ d S', D[k]? = some d → Nxt Q S d S' → J (k + 1) S') :
  Calls Tryz.prog 27 #[.agg (clc wt (.slice (some ca) cs.length cc0) (.slice (some ua) up.length uc0) (.slice la0 ls.length lc0)), .slice da D.length dc] w fun e w' => Ran (J D.length) w.heap.size e w' ∧ Below w.heap.size w w' := by
 have pB := fun u' h1 h2 h3 => ubegin_ok wt cs up ls ca ua la0 cc0 uc0 lc0 u' h1 h2 h3 hn8 hu8 hl8 he
 obtain ⟨v, ev⟩ : ∃ v, Hid (clc wt (.slice (some ca) cs.length cc0) (.slice (some ua) up.length uc0) (.slice la0 ls.length lc0) = v) := ⟨_, rfl⟩
 have hv1 : v.size = 4 := by rw [← ev.out]; rfl
 have hv2 : (Tryz.prog.info? 29).map (·.size) = some v.size := by rw [hv1]; exact sizeCl
 obtain ⟨nd, ed⟩ : ∃ n, Hid (D.length = n) := ⟨_, rfl⟩
 rw [ev.out] at pB ⊢
 rw [ed.out] at hDn hg ⊢
 obtain ⟨b1, b2, hB⟩ := two_blk (T0 := 29) (T1 := 29) (C0 := v) (C1 := clc 0 (.slice none 0 0) (.slice none 0 0) (.slice none 0 0)) (w := w) rfl
 clear ev hv1
 go_enter Tryz.func27, Tryz.ntmps27
 go_upto_region 1 with (go_big_may; refine alloc_zero zeroCl rfl rfl ?_)
 try simp only [Act.put, List.setIfInBounds_toArray, List.set_cons_zero, List.set_cons_succ]
 try simp only [alloc_size]
 generalize (w.alloc (Obj.cells v 29)).alloc (Obj.cells (clc 0 (.slice none 0 0) (.slice none 0 0) (.slice none 0 0)) 29) = W at b1 b2 hB ⊢
 have hW := b2.lt
 go_wp2_with (refine load_blk rfl 29 _ rfl b1 rfl Tryz.underlying29 rfl hv2 ?_)
 refine (pB _ (hc.below hB) (hu.below hB) (hl.below hB)).mono ?_
 rintro r w1 ⟨⟨CS, g, cc, u, uc, la, lc, rfl, hK, hgB, hgu, hO, hO2, hM⟩, hb⟩
 replace b2 := b2.below hb
 replace hB := hB.trans (hb.mono hB.size)
 have hD0 := hD
 replace hD := hD.below hB
 have hJ0 := J0 CS hK
 have hgl := hO.lt
 have hul := hO2.lt
 have hPb := blk_new w1 (uac wt (.slice (some ⟨g, 0, none⟩) CS.length cc) (.slice (some ⟨u, 0, none⟩) up.length uc) (.slice la ls.length lc) (.slice none 0 0)) 86
 have hb2 := below_box w1 (.cells (uac wt (.slice (some ⟨g, 0, none⟩) CS.length cc) (.slice (some ⟨u, 0, none⟩) up.length uc) (.slice la ls.length lc) (.slice none 0 0)) 86)
 have hk0 : ∀ x ∈ CS, x.1.kn = x.2.length ∧ x.2 = [] := fun x hx => by
  obtain ⟨i, hi⟩ := List.getElem?_of_mem hx
  obtain ⟨y, a, k, _, e⟩ := hK.2 i x hi
  rw [e]
  exact ⟨rfl, rfl⟩
 obtain ⟨P, eP⟩ : ∃ P, Hid (w1.heap.size = P) := ⟨_, rfl⟩
 rw [eP.out] at hPb
 have hU : Uc P ⟨wt, CS, up, ls, []⟩ g cc u uc la lc none 0 (w1.alloc (.cells (uac wt (.slice (some ⟨g, 0, none⟩) CS.length cc) (.slice (some ⟨u, 0, none⟩) up.length uc) (.slice la ls.length lc) (.slice none 0 0)) 86)) := by
  have hlo : ∀ b, b ≤ u ∨ w1.heap.size ≤ b → Off la ls b := fun b hb => by
   rcases hb with e | e
   ·exact Off.lg hM b (.inl (by omega))
   ·exact Off.lg hM b (.inr e)
  refine ⟨hPb, hO.below hb2, hO2.below hb2, (hM.li.mono (Nat.zero_le _)).below hb2, ⟨hM.cap, hM.mx⟩, Lg.none _ _ _, fun x hx => ⟨(hk0 x hx).1, .inl (hk0 x hx).2, fun _ _ => .inl (hk0 x hx).2⟩, fun b hb => ?_, ⟨?_, ?_, by omega⟩, by simp [blkOf]⟩
  ·simp only [wbs, blkOf, List.mem_cons, Option.toList_none, List.map_nil, List.not_mem_nil, or_false] at hb
   rcases hb with rfl | rfl | rfl
   ·exact hlo _ (.inr (by rw [eP.out]; exact Nat.le_refl _))
   ·exact hlo _ (.inl (by omega))
   ·exact hlo _ (.inl (Nat.le_refl _))
  ·have := eP.out; omega
  ·have := eP.out; omega
 go_upto_region 2 with (go_big_may; first | refine alloc_zero zeroUa rfl rfl ?_ | refine store_new rfl 86 _ _ rfl (cells := uac wt (.slice (some ⟨g, 0, none⟩) CS.length cc) (.slice (some ⟨u, 0, none⟩) up.length uc) (.slice la ls.length lc) (.slice none 0 0)) rfl rfl sizeUa rfl (uac_one _ _ _ _ _ _ _ _ _ _ _ _ _) ?_)
 try simp only [Act.put, List.setIfInBounds_toArray, List.set_cons_zero, List.set_cons_succ]
 rw [eP.out]
 generalize w1.alloc (Obj.cells (uac wt (.slice (some ⟨g, 0, none⟩) CS.length cc) (.slice (some ⟨u, 0, none⟩) up.length uc) (.slice la ls.length lc) (.slice none 0 0)) 86) = V at hU hb2 ⊢
 replace b2 := b2.below hb2
 replace hB := hB.trans (hb2.mono hB.size)
 replace hD := hD.below hb2
 have hPq : w.heap.size + 1 < P := by have := eP.out; omega
 have hW0 : ∀ b ∈ wbs P g u none, w.heap.size + 2 ≤ b := fun b hb => by
  simp only [wbs, blkOf, List.mem_cons, Option.toList_none, List.map_nil, List.not_mem_nil, or_false] at hb
  omega
 clear hPb hb2 hO hO2 hM hk0 hgl hul hb pB b1 eP hK J0
 go_wp2_with fail
 go_loopw [13] (fun iv wr => ∃ (j : Nat) (S : Cs) (g cc u uc : Nat) (la : Option Addr) (lc : Nat) (ta : Option Addr) (tc : Nat), j ≤ nd ∧ iv = .int .i64 j ∧ J j S ∧ Uc P S g cc u uc la lc ta tc wr ∧ Blk (w.heap.size + 1) (clc 0 (.slice none 0 0) (.slice none 0 0) (.slice none 0 0)) 29 wr ∧ Li De.vals 0 da D wr ∧ Below w.heap.size w wr ∧ ∀ b ∈ wbs P g u ta, w.heap.size + 2 ≤ b) (fun iv _ => nd - (intOf iv).toNat)
 case atStart => exact ⟨0, _, g, cc, u, uc, la, lc, none, 0, by omega, rfl, hJ0, hU, b2, hD, hB, hW0⟩
 case round =>
  clear hJ0 hU b2 hB hD hW0 hgB hgu
  obtain ⟨j, S, g, cc, u, uc, la, lc, ta, tc, hj9, rfl, hj, hU, b2, hD, hB, hW0⟩ := hrel
  by_cases hjn : j < nd
  ·have j0 : (j : Int) < (nd : Int) := by omega
   have j1 : (0 : Int) ≤ (j : Int) := by omega
   obtain ⟨d, hd⟩ : ∃ d, D[j]? = some d := ⟨_, List.getElem?_eq_getElem (by rw [ed.out]; exact hjn)⟩
   obtain ⟨Q, m, hGd, hm4, hls, hJ⟩ := hg j S hj9 hj
   obtain ⟨k1, k2, k3⟩ := hDo d (List.mem_of_getElem? hd)
   obtain ⟨bd, of, rfl, _, hbl, hr⟩ := hD.at De.vals_length j d hd
   have hb := below_box wr (.cells d.arr 45)
   have b3 := blk_new wr d.arr 45
   go_upto_region 5 with (go_big_may; first | refine load_range rfl 45 _ rfl (o := of + j * 42) d.vals hr rfl Tryz.underlying45 rfl sizeDe ?_ | refine alloc_zero zeroDe rfl rfl ?_ | refine store_new rfl 45 _ _ rfl (cells := d.arr) rfl rfl sizeDe rfl d.arr_one ?_)
   try simp only [Act.put, List.setIfInBounds_toArray, List.set_cons_zero, List.set_cons_succ]
   generalize wr.alloc (Obj.cells d.arr 45) = W5 at b3 hb ⊢
   replace hU := hU.below hb
   replace b2 := b2.below hb
   replace hD := hD.below hb
   replace hB := hB.trans (hb.mono hB.size)
   clear hr hb hbl
   go_wp2_with (refine load_blk rfl 45 _ rfl b3 rfl Tryz.underlying45 rfl sizeDe ?_)
   refine (do_ok hU hGd hm4 d k1 k2 k3 (fun l hl => (hls l hl).1) (fun l hl => (hls l hl).2)).mono ?_
   rintro r w6 ⟨rfl, S', la', lc', ta', tc', hN, h6, k6, hA⟩
   have hJ1 := hJ d S' hd hN
   have b2' := b2.kp k6 (fun hm => by have := hW0 _ hm; omega)
   have hD' := hD.off k6 (fun b hb => Off.li hD0 b (.inr (by have := hW0 _ hb; omega)))
   have hB' : Below w.heap.size w w6 := hB.trans (k6.below (fun b hb => by have := hW0 _ hb; omega) hB.size)
   have hW1 : ∀ b ∈ wbs P g u ta', w.heap.size + 2 ≤ b := fun b hb => by
    have h9 := b2.lt
    simp only [wbs, List.mem_cons] at hb hW0
    rcases hb with e | e | e | e
    ·exact hW0 b (.inl e)
    ·exact hW0 b (.inr (.inl e))
    ·exact hW0 b (.inr (.inr (.inl e)))
    ·rcases hA b e with e' | e'
     ·simp only [wbs, List.mem_cons] at e'
      exact hW0 b e'
     ·omega
   clear hU b2 hD hB hW0 hA k6 b3 hGd hls hJ
   go_wp2_with fail
   exact ⟨⟨j + 1, S', g, cc, u, uc, la', lc', ta', tc', by omega, by go_num, hJ1, h6, b2', hD', hB', hW1⟩, by simp [intOf]; omega⟩
  ·obtain rfl : j = nd := by omega
   have hT := hU.ft
   have hcp : Hid (S.t.length ≤ tc) := hU.ft.cap
   have hTB : Li Td.vals (w.heap.size + 2) ta S.t wr := by
    rcases hU.ft with ⟨e1, e2, e3⟩ | ⟨gt, e1, _, e3⟩
    ·exact .inl e3
    ·rw [e1]
     exact e3.li (hW0 gt (by simp [wbs, e1, blkOf]))
   obtain ⟨n1, e1⟩ : ∃ n, Hid (S.cs.length = n) := ⟨_, rfl⟩
   obtain ⟨n2, e2⟩ : ∃ n, Hid (S.up.length = n) := ⟨_, rfl⟩
   obtain ⟨n3, e3⟩ : ∃ n, Hid (S.ls.length = n) := ⟨_, rfl⟩
   obtain ⟨n4, e4⟩ : ∃ n, Hid (S.t.length = n) := ⟨_, rfl⟩
   obtain ⟨wt, e5⟩ : ∃ n, Hid (S.wait = n) := ⟨_, rfl⟩
   have hP7 := hU.fb
   rw [e1.out, e2.out, e3.out, e4.out, e5.out] at hP7
   clear hT hD hU hg hDo
   go_upto_region 7 with fail
   replace b2 := b2.drew
   have hT := hTB.below (Below.refl _ _).drew
   replace hB := hB.drew
   clear hTB
   refine wp_region_held_drew (S := fun w' => Blk P (uac wt (.slice (some ⟨g, 0, none⟩) n1 cc) (.slice (some ⟨u, 0, none⟩) n2 uc) (.slice la n3 lc) (.slice ta n4 tc)) 86 w') (by kernel_rfl) hP7.drew (fun hHeld => ?_)
   refine tkQ 0 hHeld ?_
   try simp only [yy]
   refine' tkH 1 (v := _) rfl (by kernel_rfl) (fun _ _ _ h => h) (yieldsIf_load_mid (by rfl) _ _ rfl P 0 rfl (clc wt (.slice (some ⟨g, 0, none⟩) n1 cc) (.slice (some ⟨u, 0, none⟩) n2 uc) (.slice la n3 lc)).toList _ ?hS2 Tryz.underlying29 rfl sizeCl) hHeld ?_
   case hS2 => exact fun w h => h.range 0 _ (ua_cl _ _ _ _ _)
   try simp only [yy]
   refine tkQ 2 hHeld ?_
   try simp only [yy]
   refine tkH 3 (v := ?v4) rfl (by kernel_rfl) (fun _ _ _ h => h) (Or.inl ⟨by rfl, ?hy4⟩) hHeld ?_
   case hy4 => (intro w hSw; have hc := hSw.cell 4 (.slice ta n4 tc) rfl; clear hSw; go_simp; try with_reducible rfl)
   try simp only [yy]
   refine rd1 4 (fun K hK => ?_)
   rw [if_pos (by rfl)]
   refine wp_store_part 29 _ _ rfl (off := 0) (cells := (clc wt (.slice (some ⟨g, 0, none⟩) n1 cc) (.slice (some ⟨u, 0, none⟩) n2 uc) (.slice la n3 lc))) b2 rfl rfl sizeCl (Nat.le_refl _) (clc_one _ _ _ _ _ _ _ _ _ _) ?_
   intro u1 hn9 hk9
   rw [putAt_all _ _ (by rfl)] at hn9
   refine hK.out _ _ (hHeld.kp1 hk9 (by omega)) (fun hHeld => ?_)
   clear hK K 
   try simp only [yy]
   refine tkQ 5 hHeld ?_
   try simp only [yy]
   refine wpAnyH_done (by kernel_rfl) ?_ _
   go_wp2_with fail
   (try simp only [Exit.inBlock, Exit.then])
   have hTl := hT.off hk9 (by simpa using Off.li hT _ (.inl (by omega)))
   exact bodyPost_ret (v := .tuple #[.agg (clc wt (.slice (some ⟨g, 0, none⟩) n1 cc) (.slice (some ⟨u, 0, none⟩) n2 uc) (.slice la n3 lc)), .slice ta n4 tc]) (ret_two rfl rfl hn9 Tryz.underlying29 rfl sizeCl rfl) rfl ⟨⟨S, g, cc, u, uc, la, lc, ta, tc, by rw [e1.out, e2.out, e3.out, e4.out, e5.out], hj, hcp.out, hTl.mono (by omega)⟩, hB.trans (hk9.below1 (by omega) hB.size)⟩
end Go.Proofs.YthgfpdidilolgaaGreat
namespace Go.Proofs.YthgfpdidilolgaaGreat
set_option maxRecDepth 10000
open Go.RowKit Go.Sort
set_option linter.unusedVariables false
theorem bsCo (c : Co) (w : World) : (Instr.buildSlice 25 1 #[(0, .agg (coc c))]).run Tryz.prog w = .ok (.slice (some ⟨w.heap.size, 0, none⟩) 1 1) (w.alloc (.cells (coc c) 78)) := by kernel_rfl
theorem box_co {ops : Array Oper} {rest : List Oper} {op : Oper} {a : Act} {w : World} {Q : Exit → Act → World → Prop} (hgd : op.guard = none) (y : Operand) (ho : op.op = .buildSlice 25 1 #[(0, y)]) (x : Co) (hx : a.eval y = .agg (coc x))
  (h : wpList Tryz.prog ops Q rest (a.put op.dst (.slice (some ⟨w.heap.size, 0, none⟩) 1 1)) (w.alloc (.cells (coc x) 78))) : wpList Tryz.prog ops Q (op :: rest) a w :=
 wpList_plain hgd fun _ hK => by
  have hk := hK _ _ h
  unfold Oper.wp execOp
  simp only [ho, List.map_toArray, List.map_cons, List.map_nil, hx, Sem.run_bind, Sem.run_pure, bsCo, Result.andThen_ok]
  exact hk
def csB (wt : Int) (j : Nat) : List (Co × List Kt) := (List.range j).map fun (i : Nat) => (startC (i : Int) 1 wt, [])
theorem csB_len (wt : Int) (j : Nat) : (csB wt j).length = j := by simp [csB]
theorem csB_more (wt : Int) (j : Nat) : csB wt (j + 1) = csB wt j ++ [(startC (j : Int) 1 wt, [])] := by simp [csB, List.range_succ]
theorem csB_at {wt : Int} {n i : Nat} {x : Co × List Kt} (h : (csB wt n)[i]? = some x) : i < n ∧ x = (startC (i : Int) 1 wt, []) := by
 have hi := (List.getElem?_eq_some_iff.1 h).1
 rw [csB_len] at hi
 simp only [csB, List.getElem?_map, List.getElem?_range hi, Option.map_some, Option.some.injEq] at h
 exact ⟨hi, h.symm⟩
def begB (n wt : Int) : Bool := decide (1 ≤ n ∧ n ≤ 8 ∧ 1 ≤ wt ∧ wt ≤ 1000)
def BegY (wt : Int) (n B : Nat) (e : Ending) (w' : World) : Prop := ∃ ca cc ua uc, e = .returned (.tuple #[.agg (clc wt (.slice (some ca) n cc) (.slice (some ua) n uc) (.slice none 0 0)), .bool true]) ∧ Li cov B (some ca) (csB wt n) w' ∧ Li bvl B (some ua) (List.replicate n true) w'
set_option maxHeartbeats 8000000 in
theorem beg_no (n wt : Int) (h : begB n wt = false) (w : World) : Calls Tryz.prog 9 #[.int .i64 n, .int .i64 wt] w fun e w' => e = .returned (.tuple #[.agg (clc 0 (.slice none 0 0) (.slice none 0 0) (.slice none 0 0)), .bool false]) ∧ Below w.heap.size w w' := by
 unfold begB at h
 rw [decide_eq_false_iff_not] at h
 have b1 := blk_new w (clc 0 (.slice none 0 0) (.slice none 0 0) (.slice none 0 0)) 29
 have hB := below_box w (.cells (clc 0 (.slice none 0 0) (.slice none 0 0) (.slice none 0 0)) 29)
 by_cases hn : 1 ≤ n ∧ n ≤ 8
 ·have x1 : decide (n < 1) = false := by rw [decide_eq_false_iff_not]; omega
  have x2 : decide (n > 8) = false := by rw [decide_eq_false_iff_not]; omega
  have x3 : decide ((0 : Int) < n) = true := by rw [decide_eq_true_eq]; omega
  have es : startB 0 1 wt = false := by unfold startB; rw [decide_eq_false_iff_not]; omega
  have pS := start_ok 0 1 wt
  have eZ : startC 0 1 wt = Co.zero := by rw [startC, es]; rfl
  rw [eZ, es] at pS
  clear h
  go_enter Tryz.func9, Tryz.ntmps9
  go_upto_region 3 with (go_big_may; refine alloc_zero zeroCl rfl rfl ?_)
  try simp only [Act.put, List.setIfInBounds_toArray, List.set_cons_zero, List.set_cons_succ]
  generalize w.alloc (Obj.cells (clc 0 (.slice none 0 0) (.slice none 0 0) (.slice none 0 0)) 29) = W at b1 hB ⊢
  have b2 := blk_new W (clc wt (.slice none 0 0) (.slice none 0 0) (.slice none 0 0)) 29
  have hB2 := below_box W (.cells (clc wt (.slice none 0 0) (.slice none 0 0) (.slice none 0 0)) 29)
  go_upto_region 4 with (go_big_may; first | (refine build_as rfl 29 #[(0, .tmp 17)] rfl (C := clc wt (.slice none 0 0) (.slice none 0 0) (.slice none 0 0)) ?_ ?_; kernel_rfl) | refine alloc_zero zeroCl rfl rfl ?_ | refine store_new rfl 29 _ _ rfl (cells := clc wt (.slice none 0 0) (.slice none 0 0) (.slice none 0 0)) rfl rfl sizeCl rfl (clc_one _ _ _ _ _ _ _ _ _ _) ?_)
  try simp only [Act.put, List.setIfInBounds_toArray, List.set_cons_zero, List.set_cons_succ]
  generalize W.alloc (Obj.cells (clc wt (.slice none 0 0) (.slice none 0 0) (.slice none 0 0)) 29) = V at b2 hB2 ⊢
  replace b1 := b1.below hB2
  replace hB := hB.trans (hB2.mono hB.size)
  clear b2 hB2
  go_wp2_with fail
  go_loopw [20] (fun iv wr => iv = .int .i64 0 ∧ Blk w.heap.size (clc 0 (.slice none 0 0) (.slice none 0 0) (.slice none 0 0)) 29 wr ∧ Below w.heap.size w wr) (fun _ _ => 0)
  case atStart => exact ⟨rfl, b1, hB⟩
  case round =>
   clear b1 hB
   obtain ⟨rfl, b1, hB⟩ := hrel
   go_wp2_with fail
   refine (pS _).mono ?_
   rintro r w3 ⟨rfl, hb⟩
   replace b1 := b1.below hb
   replace hB := hB.trans (hb.mono hB.size)
   clear pS
   have hb9 := below_box w3 (.cells (coc Co.zero) 78)
   go_upto_region 8 with (go_big_may; first | refine alloc_zero zeroCo rfl rfl ?_ | refine store_new rfl 78 _ _ rfl (cells := coc Co.zero) rfl rfl sizeCo rfl (coc_one _) ?_)
   try simp only [Act.put, List.setIfInBounds_toArray, List.set_cons_zero, List.set_cons_succ]
   generalize w3.alloc (Obj.cells (coc Co.zero) 78) = w4 at hb9 ⊢
   replace b1 := b1.below hb9
   replace hB := hB.trans (hb9.mono hB.size)
   go_wp2_with (first | (refine build_as rfl 29 #[] rfl (C := clc 0 (.slice none 0 0) (.slice none 0 0) (.slice none 0 0)) ?_ ?_; kernel_rfl) | refine store_same rfl 29 _ _ rfl b1 rfl rfl sizeCl (clc_one _ _ _ _ _ _ _ _ _ _) ?_)
   (try simp only [Exit.inBlock, Exit.then])
   exact bodyPost_ret (w := w4) (v := .tuple #[.agg (clc 0 (.slice none 0 0) (.slice none 0 0) (.slice none 0 0)), .bool false]) (ret_two rfl rfl b1 Tryz.underlying29 rfl sizeCl rfl) rfl ⟨rfl, hB⟩
 ·have x1 : (decide (n < 1) || decide (n > 8)) = true := by simp; omega
  go_enter Tryz.func9, Tryz.ntmps9
  go_upto_region 1 with (go_big_may; refine alloc_zero zeroCl rfl rfl ?_)
  try simp only [Act.put, List.setIfInBounds_toArray, List.set_cons_zero, List.set_cons_succ]
  generalize w.alloc (Obj.cells (clc 0 (.slice none 0 0) (.slice none 0 0) (.slice none 0 0)) 29) = W at b1 hB ⊢
  by_cases h1 : n < 1
  ·have y1 : decide (n < 1) = true := by rw [decide_eq_true_eq]; exact h1
   go_wp2_with (first | (refine build_as rfl 29 #[] rfl (C := clc 0 (.slice none 0 0) (.slice none 0 0) (.slice none 0 0)) ?_ ?_; kernel_rfl) | refine store_same rfl 29 _ _ rfl b1 rfl rfl sizeCl (clc_one _ _ _ _ _ _ _ _ _ _) ?_)
   (try simp only [Exit.inBlock, Exit.then])
   exact bodyPost_ret (w := W) (v := .tuple #[.agg (clc 0 (.slice none 0 0) (.slice none 0 0) (.slice none 0 0)), .bool false]) (ret_two rfl rfl b1 Tryz.underlying29 rfl sizeCl rfl) rfl ⟨rfl, hB⟩
  ·have y1 : decide (n < 1) = false := by rw [decide_eq_false_iff_not]; exact h1
   have y2 : decide (n > 8) = true := by rw [decide_eq_true_eq]; omega
   go_wp2_with (first | (refine build_as rfl 29 #[] rfl (C := clc 0 (.slice none 0 0) (.slice none 0 0) (.slice none 0 0)) ?_ ?_; kernel_rfl) | refine store_same rfl 29 _ _ rfl b1 rfl rfl sizeCl (clc_one _ _ _ _ _ _ _ _ _ _) ?_)
   (try simp only [Exit.inBlock, Exit.then])
   exact bodyPost_ret (w := W) (v := .tuple #[.agg (clc 0 (.slice none 0 0) (.slice none 0 0) (.slice none 0 0)), .bool false]) (ret_two rfl rfl b1 Tryz.underlying29 rfl sizeCl rfl) rfl ⟨rfl, hB⟩
set_option maxHeartbeats 8000000 in
theorem beg_yes (n : Nat) (wt : Int) (h : begB (n : Int) wt = true) (w : World) : Calls Tryz.prog 9 #[.int .i64 (n : Int), .int .i64 wt] w fun e w' => BegY wt n w.heap.size e w' ∧ Below w.heap.size w w' := by
 unfold begB at h
 rw [decide_eq_true_eq] at h
 have x1 : decide ((n : Int) < 1) = false := by rw [decide_eq_false_iff_not]; omega
 have x2 : decide ((n : Int) > 8) = false := by rw [decide_eq_false_iff_not]; omega
 have hn8 : n ≤ 8 := by omega
 have hn1 : 1 ≤ n := by omega
 have hst : ∀ i : Nat, i < n → startB (i : Int) 1 wt = true := fun i hi => by unfold startB; rw [decide_eq_true_eq]; omega
 have pS := fun i : Nat => start_ok (i : Int) 1 wt
 obtain ⟨iI, zI, hI, hz0, hsz, hby, hzs⟩ := infoCo
 obtain ⟨iJ, zJ, hJ, hy0, hyz, hyy, hys⟩ := infoBool
 have b1 := blk_new w (clc 0 (.slice none 0 0) (.slice none 0 0) (.slice none 0 0)) 29
 have hB := below_box w (.cells (clc 0 (.slice none 0 0) (.slice none 0 0) (.slice none 0 0)) 29)
 clear h
 go_enter Tryz.func9, Tryz.ntmps9
 go_upto_region 3 with (go_big_may; refine alloc_zero zeroCl rfl rfl ?_)
 try simp only [Act.put, List.setIfInBounds_toArray, List.set_cons_zero, List.set_cons_succ]
 generalize w.alloc (Obj.cells (clc 0 (.slice none 0 0) (.slice none 0 0) (.slice none 0 0)) 29) = W at b1 hB ⊢
 have b2 := blk_new W (clc wt (.slice none 0 0) (.slice none 0 0) (.slice none 0 0)) 29
 have hB2 := below_box W (.cells (clc wt (.slice none 0 0) (.slice none 0 0) (.slice none 0 0)) 29)
 have hWw := b1.lt
 go_upto_region 4 with (go_big_may; first | (refine build_as rfl 29 #[(0, .tmp 17)] rfl (C := clc wt (.slice none 0 0) (.slice none 0 0) (.slice none 0 0)) ?_ ?_; kernel_rfl) | refine alloc_zero zeroCl rfl rfl ?_ | refine store_new rfl 29 _ _ rfl (cells := clc wt (.slice none 0 0) (.slice none 0 0) (.slice none 0 0)) rfl rfl sizeCl rfl (clc_one _ _ _ _ _ _ _ _ _ _) ?_)
 try simp only [Act.put, List.setIfInBounds_toArray, List.set_cons_zero, List.set_cons_succ]
 generalize W.alloc (Obj.cells (clc wt (.slice none 0 0) (.slice none 0 0) (.slice none 0 0)) 29) = V at b2 hB2 ⊢
 replace b1 := b1.below hB2
 replace hB := hB.trans (hB2.mono hB.size)
 clear hB2
 go_wp2_with fail
 go_loopw [20] (fun iv wr => ∃ (j : Nat) (ca : Option Addr) (cc : Nat) (ua : Option Addr) (uc : Nat), j ≤ n ∧ iv = .int .i64 j ∧ Blk W.heap.size (clc wt (.slice ca j cc) (.slice ua j uc) (.slice none 0 0)) 29 wr ∧ Lg cov 189 78 (W.heap.size + 1) ca cc (csB wt j) wr ∧ Lg bvl 1 4 (W.heap.size + 1) ua uc (List.replicate j true) wr ∧ (∀ b ∈ blkOf ca, b ∉ blkOf ua) ∧ Blk w.heap.size (clc 0 (.slice none 0 0) (.slice none 0 0) (.slice none 0 0)) 29 wr ∧ Below w.heap.size w wr) (fun iv _ => n - (intOf iv).toNat)
 case atStart => exact ⟨0, none, 0, none, 0, by omega, rfl, b2, Lg.none _ _ _, Lg.none _ _ _, by simp [blkOf], b1, hB⟩
 case round =>
  clear b1 b2 hB
  obtain ⟨j, ca, cc, ua, uc, hj, rfl, b2, hC, hD, hne, b1, hB⟩ := hrel
  by_cases hjn : j < n
  ·have j0 : (j : Int) < (n : Int) := by omega
   have j1 : (0 : Int) ≤ (j : Int) := by omega
   go_wp2_with fail
   refine (pS j _).mono ?_
   rintro r w3 ⟨rfl, hb⟩
   rw [hst j hjn]
   obtain ⟨X, eX⟩ : ∃ X, Hid (startC (j : Int) 1 wt = X) := ⟨_, rfl⟩
   rw [eX.out]
   have b3 := blk_new w3 (coc X) 78
   have hb9 := below_box w3 (.cells (coc X) 78)
   replace b1 := (b1.below hb).below hb9
   replace b2 := (b2.below hb).below hb9
   replace hC := (hC.below hb).below hb9
   replace hD := (hD.below hb).below hb9
   replace hB := (hB.trans (hb.mono hB.size)).trans (hb9.mono (Nat.le_trans hB.size hb.size))
   clear hb
   go_upto_region 8 with (go_big_may; first | refine alloc_zero zeroCo rfl rfl ?_ | refine store_new rfl 78 _ _ rfl (cells := coc X) rfl rfl sizeCo rfl (coc_one _) ?_)
   try simp only [Act.put, List.setIfInBounds_toArray, List.set_cons_zero, List.set_cons_succ]
   generalize w3.alloc (Obj.cells (coc X) 78) = w4 at b1 b2 b3 hC hD hB ⊢
   clear hb9
   go_upto_region 10 with fail
   have c1 : w4.cell? ⟨W.heap.size, 1, none⟩ = some (.slice ca j cc) := b2.cell 1 _ rfl
   have hx1 := (li_box (f := cov) w4 (X, []) 78 0 (Nat.zero_le _)).src (P := Tryz.prog) cov_length cov_one Tryz.underlying25 1
   have hb5 := below_box w4 (.cells (coc X) 78)
   have hB5 := b2.lt
   go_upto_region 11 with (go_big_may; first | refine load_blk rfl 78 _ rfl b3 rfl Tryz.underlying78 rfl sizeCo ?_ | refine box_co rfl _ rfl X rfl ?_ | (refine append_ln cov_length rfl _ _ rfl Tryz.underlying25 hI hz0 hsz hby hzs (hC.below hb5) (by have := hb5.size; omega) (csB_len wt j) rfl (M := [(X, [])]) (by simp) hx1 rfl (by simp; omega) (by simp [maxLen]; omega) ?_; intro ca' cc' w5 hC' hk5 hA5; have b2' := (b2.below hb5).kp hk5 (fun hm => by have := hC.in _ hm; omega)) | (refine store_one rfl 25 _ _ rfl (off := 1) (.slice ca' (j + 1) cc') b2' rfl rfl rfl rfl (by kernel_rfl) (show 1 + 1 ≤ 4 by decide) ?_; intro w6 b6 k6; rw [clc1] at b6))
   have hDl := fun b hb => (hD.in b hb).2
   have hC6 := hC'.kpo k6 (fun b hb hm => by simp at hm; have := hC'.in b hb; omega)
   have hD6 := ((hD.below hb5).kpo hk5 (fun b hb hm => hne b hm hb)).kpo k6 (fun b hb hm => by simp at hm; have := hD.in b hb; omega)
   have b16 := ((b1.below hb5).kp hk5 (fun hm => by have := hC.in _ hm; omega)).kp1 k6 (by omega)
   have hB6 : Below w.heap.size w w6 := below_kp ((hB.trans (hb5.mono hB.size)).trans (hk5.below (fun b hb => by have := hC.in b hb; omega) (Nat.le_trans hB.size hb5.size))) k6 (by omega)
   have hne6 : ∀ b ∈ blkOf ca', b ∉ blkOf ua := fun b hb hm => by
    rcases hA5 b hb with e | e
    ·exact hne b e hm
    ·have := hDl b hm; have := hb5.size; omega
   clear b1 b2 b3 hC hC' hD hB hne hk5 hA5 k6 c1 hx1 hb5 hB5 b2' hDl
   have c2 : w6.cell? ⟨W.heap.size, 2, none⟩ = some (.slice ua j uc) := b6.cell 2 _ rfl
   have hx2 := (li_box (f := bvl) w6 true 4 0 (Nat.zero_le _)).src (P := Tryz.prog) bvl_length bvl_one Tryz.underlying26 1
   have hb7 := below_box w6 (.cells (bvl true).toArray 4)
   have hB7 := b6.lt
   go_upto_region 12 with (go_big_may; first | refine box_bool rfl _ rfl true rfl ?_ | (refine append_ln bvl_length rfl _ _ rfl Tryz.underlying26 hJ hy0 hyz hyy hys (hD6.below hb7) (by have := hb7.size; omega) (by simp : (List.replicate j true).length = j) rfl (M := [true]) (by simp) hx2 rfl (by simp; omega) (by simp [maxLen]; omega) ?_; intro ua' uc' w8 hD8 hk8 hA8; have b8 := (b6.below hb7).kp hk8 (fun hm => by have := hD6.in _ hm; omega)) | (refine store_one rfl 26 _ _ rfl (off := 2) (.slice ua' (j + 1) uc') b8 rfl rfl rfl rfl (by kernel_rfl) (show 2 + 1 ≤ 4 by decide) ?_; intro w9 b9 k9; rw [clc2] at b9))
   have hCl := fun b hb => (hC6.in b hb).2
   have hC9 := ((hC6.below hb7).kpo hk8 (fun b hb hm => hne6 b hb hm)).kpo k9 (fun b hb hm => by simp at hm; have := hC6.in b hb; omega)
   have hD9 := hD8.kpo k9 (fun b hb hm => by simp at hm; have := hD8.in b hb; omega)
   have b19 := ((b16.below hb7).kp hk8 (fun hm => by have := hD6.in _ hm; omega)).kp1 k9 (by omega)
   have hB9 : Below w.heap.size w w9 := below_kp ((hB6.trans (hb7.mono hB6.size)).trans (hk8.below (fun b hb => by have := hD6.in b hb; omega) (Nat.le_trans hB6.size hb7.size))) k9 (by omega)
   have hne9 : ∀ b ∈ blkOf ca', b ∉ blkOf ua' := fun b hb hm => by
    rcases hA8 b hm with e | e
    ·exact hne6 b hb e
    ·have := hCl b hb; have := hb7.size; omega
   clear b16 b6 hC6 hD6 hD8 hB6 hne6 hk8 hA8 k9 c2 hx2 hb7 hB7 b8 hCl
   go_wp2_with fail
   exact ⟨⟨j + 1, ca', cc', ua', uc', by omega, by go_num, b9, by rw [csB_more, eX.out]; exact hC9, by rw [List.replicate_succ']; exact hD9, hne9, b19, hB9⟩, by simp [intOf]; omega⟩
  ·obtain rfl : j = n := by omega
   clear hI hz0 hsz hby hzs hJ hy0 hyz hyy hys
   obtain ⟨g, ec, hg, hO⟩ : ∃ g, ca = some ⟨g, 0, none⟩ ∧ W.heap.size + 1 ≤ g ∧ Ow cov 189 78 g cc (csB wt j) wr := by
    rcases hC with ⟨_, _, e⟩ | ⟨g, e1, e2, e3⟩
    ·have := csB_len wt j; rw [e] at this; simp at this; omega
    ·exact ⟨g, e1, e2, e3⟩
   obtain ⟨u, eu, hu, hO2⟩ : ∃ g, ua = some ⟨g, 0, none⟩ ∧ W.heap.size + 1 ≤ g ∧ Ow bvl 1 4 g uc (List.replicate j true) wr := by
    rcases hD with ⟨_, _, e⟩ | ⟨g, e1, e2, e3⟩
    ·have : (List.replicate j true).length = j := by simp
     rw [e] at this; simp at this; omega
    ·exact ⟨g, e1, e2, e3⟩
   subst ec
   subst eu
   clear hne hC hD
   go_wp2_with (first | refine load_blk rfl 29 _ rfl b2 rfl Tryz.underlying29 rfl sizeCl ?_ | (refine store_part rfl 29 _ _ rfl (off := 0) (cells := clc wt (.slice (some ⟨g, 0, none⟩) j cc) (.slice (some ⟨u, 0, none⟩) j uc) (.slice none 0 0)) b1 rfl rfl sizeCl (Nat.le_refl _) (clc_one _ _ _ _ _ _ _ _ _ _) ?_; intro w9 b9 k9; rw [putAt_all _ _ (by rfl)] at b9))
   (try simp only [Exit.inBlock, Exit.then])
   exact bodyPost_ret (w := w9) (v := .tuple #[.agg (clc wt (.slice (some ⟨g, 0, none⟩) j cc) (.slice (some ⟨u, 0, none⟩) j uc) (.slice none 0 0)), .bool true]) (ret_two rfl rfl b9 Tryz.underlying29 rfl sizeCl rfl) rfl ⟨⟨⟨g, 0, none⟩, cc, ⟨u, 0, none⟩, uc, rfl, (hO.kp k9 (by simp; omega)).li (by omega), (hO2.kp k9 (by simp; omega)).li (by omega)⟩, below_kp hB k9 (Nat.le_refl _)⟩
end Go.Proofs.YthgfpdidilolgaaGreat
