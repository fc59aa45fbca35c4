/-
  Of the texts beneath these laws, in their order: ClX.
  Each theorem says its own conditions.
-/
import Derived.Test.YthgfpdidilolgaaGreatZ39
import Derived.BigRegion
namespace Go.Proofs.YthgfpdidilolgaaGreat
set_option maxRecDepth 10000
open Go.RowKit Go.Sort
set_option linter.unusedVariables false
set_option linter.unusedSimpArgs false
theorem and7c (d : Nat) (h : d < 8) : bits .and .i64 (d : Int) 7 = (d : Int) := by
 have : d = 0 ∨ d = 1 ∨ d = 2 ∨ d = 3 ∨ d = 4 ∨ d = 5 ∨ d = 6 ∨ d = 7 := by omega
 rcases this with rfl | rfl | rfl | rfl | rfl | rfl | rfl | rfl <;> decide
theorem cnt_le (T : List Td) (i n : Nat) (I : Idn) (q : Nat) : cnt T i n I q ≤ T.length := List.length_filter_le _ _
theorem cnt_next {T : List Td} {j : Nat} {t : Td} (ht : T[j]? = some t) (i n : Nat) (I : Idn) (q : Nat) : cnt (T.take (j + 1)) i n I q = cnt (T.take j) i n I q + if cntB i n I q t = true then 1 else 0 := by
 rw [List.take_add_one, ht, cnt_app]
 show _ + cnt [t] i n I q = _
 rw [cnt_one]
theorem cnt_stay {T : List Td} {j : Nat} {t : Td} (ht : T[j]? = some t) {i n : Nat} {I : Idn} (h : ∀ q, cntB i n I q t = false) : (fun q => cnt (T.take (j + 1)) i n I q) = fun q => cnt (T.take j) i n I q := by
 funext q
 rw [cnt_next ht, h q]
 simp
theorem cnt_more {T : List Td} {j : Nat} {t : Td} (ht : T[j]? = some t) {i n q : Nat} {I : Idn} (h : t.who = i ∧ t.inc = n ∧ t.inn = I ∧ t.h.view = false ∧ t.h.k.fr = (q : Int)) : (fun q => cnt (T.take (j + 1)) i n I q) = put8 (fun q => cnt (T.take j) i n I q) q (cnt (T.take j) i n I q + 1) := by
 funext p
 unfold put8
 rw [cnt_next ht]
 by_cases hp : p = q
 ·subst hp
  rw [if_pos (cntB_iff.2 h), if_pos rfl]
 ·rw [if_neg hp, if_neg, Nat.add_zero]
  intro hc
  have := (cntB_iff.1 hc).2.2.2.2
  rw [h.2.2.2.2] at this
  omega
theorem row_ne {i n q : Nat} {I : Idn} {t : Td} (h : ¬ (t.who = i ∧ t.inc = n ∧ t.inn = I ∧ t.h.view = false)) : cntB i n I q t = false := by
 rw [Bool.eq_false_iff]
 intro hc
 have := cntB_iff.1 hc
 exact h ⟨this.1, this.2.1, this.2.2.1, this.2.2.2.1⟩
theorem rk_le {n : Nat} {G : List Gh} {T : List Td} (g : GI n G T) {i k i' k' : Nat} {X I : Idn} {K K' : Nat → Nat} (h : Gh.rk i k X I K ∈ G) (h' : Gh.rk i' k' X I K' ∈ G) : ∀ q, q < 8 → K q ≤ K' q := by
 intro q hq
 obtain ⟨m, hm, _, h2⟩ := g.g10 i k X I K h
 obtain ⟨m', hm', h1', _⟩ := g.g10 i' k' X I K' h'
 obtain ⟨d, hd, hd0, C, hC, e⟩ := h2 q hq
 have em := g.f1 X m m' hm hm' d hd
 obtain ⟨I', C', hC', hle⟩ := h1' d hd (by rw [← em]; exact hd0)
 rw [← em] at hC'
 obtain ⟨e1, e2⟩ := g.f2 d (m d) X I C I' C' hC hC'
 rw [e, e2 q hq]
 exact hle e1.symm q hq
theorem rk_same {n : Nat} {G : List Gh} {T : List Td} (g : GI n G T) {i k i' k' : Nat} {X I : Idn} {K K' : Nat → Nat} (h : Gh.rk i k X I K ∈ G) (h' : Gh.rk i' k' X I K' ∈ G) : ∀ q, q < 8 → K q = K' q :=
 fun q hq => Nat.le_antisymm (rk_le g h h' q hq) (rk_le g h' h q hq)
theorem cnt_same {n : Nat} {G : List Gh} {T : List Td} (g : GI n G T) {a b : Td} (ha : a ∈ T) (hb : b ∈ T) (va : a.h.view = true) (vb : b.h.view = true) (hi : b.inn = a.inn) (hc : b.h.conf = a.h.conf) : mbSame (fun q => cnt T a.who a.inc a.inn q) (fun q => cnt T b.who b.inc b.inn q) = true := by
 rw [mbSame_iff]
 intro q hq
 obtain ⟨_, _, _, K, hK, eK⟩ := (g.ta a ha).vm va
 obtain ⟨_, _, _, K', hK', eK'⟩ := (g.ta b hb).vm vb
 rw [hi, hc] at hK'
 show cnt T a.who a.inc a.inn q = cnt T b.who b.inc b.inn q
 rw [eK q hq, eK' q hq]
 exact rk_same g hK hK' q hq
set_option maxHeartbeats 8000000 in
theorem counts_ok (T : List Td) (ta : Option Addr) (tc d n : Nat) (I : Idn) (hN : T.length ≤ 4294967294) (hf : ∀ t ∈ T, t.h.view = false → ∃ q, q < 8 ∧ t.h.k.fr = ((q : Nat) : Int)) (w : World) (hS : Li Td.vals 0 ta T w) :
  Calls Tryz.prog 17 #[.slice ta T.length tc, .int .i64 (d : Int), .int .u32 (n : Int), .agg I.arr] w fun e w' => e = .returned (.agg (mbc fun q => cnt T d n I q)) ∧ Below w.heap.size w w' := by
 obtain ⟨N, hn⟩ : ∃ N, Hid (T.length = N) := ⟨_, rfl⟩
 have HE : Hid ((fun q => cnt T d n I q) = fun q => cnt (T.take N) d n I q) := by
  show _ = _
  rw [List.take_of_length_le (by rw [hn.out]; omega)]
 rw [HE.out, hn.out]
 rw [hn.out] at hN
 obtain ⟨a7, a8, hB⟩ := two_blk (T0 := 51) (T1 := 60) (C0 := I.arr) (C1 := mbc noMb) (w := w) rfl
 go_enter Tryz.func17, Tryz.ntmps17
 go_upto_region 1 with (go_big_may; refine alloc_zero zeroCt rfl rfl ?_)
 try simp only [Act.put, List.setIfInBounds_toArray, List.set_cons_zero, List.set_cons_succ]
 obtain ⟨z8, e8⟩ : ∃ z8, (w.alloc (Obj.cells I.arr 51)).heap.size = z8 := ⟨_, rfl⟩
 have e8' : w.heap.size + 1 = z8 := by rw [← e8]; simp
 rw [e8'] at a8
 rw [e8]
 generalize (w.alloc (Obj.cells I.arr 51)).alloc (Obj.cells (mbc noMb) 60) = V at a7 a8 hB ⊢
 have hz8 : w.heap.size ≤ z8 := by omega
 clear e8 e8'
 have a9 := blk_new V (mbc noMb) 60
 have hb := below_box V (.cells (mbc noMb) 60)
 go_upto_region 2 with (go_big_may; first | refine build_zero builtCt rfl rfl ?_ | refine alloc_zero zeroCt rfl rfl ?_ | refine store_new rfl 60 _ _ rfl (cells := mbc noMb) rfl rfl sizeCt rfl (mbc_one _) ?_)
 try simp only [Act.put, List.setIfInBounds_toArray, List.set_cons_zero, List.set_cons_succ]
 generalize hz9 : V.heap.size = z9 at a9 ⊢
 have h79 : w.heap.size ≠ z9 := by have := a7.lt; omega
 have h89 : z8 ≠ z9 := by have := a8.lt; omega
 have hz : w.heap.size ≤ z9 := by rw [← hz9]; exact hB.size
 have hoff : T ≠ [] → ∀ b o, ta = some ⟨b, o, none⟩ → b ≠ z9 := fun hne b o e => by
  rcases hS with h | ⟨b', o', e', _, hb', _⟩
  ·exact absurd h hne
  ·rw [e] at e'
   simp at e'
   omega
 clear hz9
 generalize V.alloc (Obj.cells (mbc noMb) 60) = V2 at a9 hb ⊢
 replace a7 := a7.below hb
 replace a8 := a8.below hb
 replace hB := hB.trans (hb.mono hB.size)
 clear hb
 go_wp2_with fail
 go_loopw [10] (fun iv wr => ∃ j : Nat, j ≤ N ∧ iv = .int .i64 j ∧ Blk w.heap.size I.arr 51 wr ∧ Blk z8 (mbc noMb) 60 wr ∧ Blk z9 (mbc fun q => cnt (T.take j) d n I q) 60 wr ∧ Li Td.vals 0 ta T wr ∧ Below w.heap.size w wr) (fun iv _ => N - (intOf iv).toNat)
 case atStart => exact ⟨0, by omega, rfl, a7, a8, a9, hS.below hB, hB⟩
 case round =>
  clear a7 a8 a9 hS hB
  obtain ⟨j, hj, rfl, a7, a8, a9, hS, hB⟩ := hrel
  rename World => wr
  by_cases hjn : j < N
  ·have j0 : (j : Int) < (N : Int) := by omega
   have j1 : (0 : Int) ≤ (j : Int) := by omega
   obtain ⟨t, ht⟩ : ∃ t, T[j]? = some t := ⟨_, List.getElem?_eq_getElem (by rw [hn.out]; exact hjn)⟩
   obtain ⟨bt, of, rfl, _, hbl, hr⟩ := hS.at Td.vals_length j t ht
   have hft := hf t (List.mem_of_getElem? ht)
   have HT : Hid (T[j]? = some t) := ht
   have hbz : bt ≠ z9 := hoff (by intro h; rw [h] at ht; simp at ht) bt of rfl
   obtain ⟨K, HK⟩ : ∃ K, Hid ((fun q => cnt (T.take j) d n I q) = K) := ⟨_, rfl⟩
   obtain ⟨K', HK'⟩ : ∃ K', Hid ((fun q => cnt (T.take (j + 1)) d n I q) = K') := ⟨_, rfl⟩
   have hno : ¬ (t.who = d ∧ t.inc = n ∧ t.inn = I ∧ t.h.view = false) → Blk z9 (mbc K) 60 wr → ∀ u, Below wr.heap.size wr u → Blk z9 (mbc fun q => cnt (T.take (j + 1)) d n I q) 60 u := fun h hK u hu => by
    rw [cnt_stay ht (fun q => row_ne h), HK.out]
    exact hK.below hu
   have hle : ∀ q, K q ≤ 4294967294 := fun q => by
    rw [← HK.out]
    show cnt (T.take j) d n I q ≤ _
    have := cnt_le (T.take j) d n I q
    rw [List.length_take] at this
    omega
   have hyes : ∀ q : Nat, (t.who = d ∧ t.inc = n ∧ t.inn = I ∧ t.h.view = false ∧ t.h.k.fr = (q : Int)) → (fun q => cnt (T.take (j + 1)) d n I q) = put8 K q (K q + 1) := fun q h => by
    rw [cnt_more ht h, HK.out, ← HK.out]
   rw [HK.out] at a9
   have c0 : wr.cell? ⟨bt, of + j * 55, none⟩ = some (.int .i64 (t.who : Int)) := hr 0 _ rfl
   have c1 : wr.cell? ⟨bt, of + j * 55 + 1, none⟩ = some (.int .u32 (t.inc : Int)) := hr 1 _ rfl
   have c2 : wr.cell? ⟨bt, of + j * 55 + 2, none⟩ = some (.int .u32 (t.inn.e : Int)) := hr 2 _ rfl
   have c3 : wr.cell? ⟨bt, of + j * 55 + 2 + 1, none⟩ = some (.int .u32 (t.inn.c : Int)) := hr 3 _ rfl
   have c4 : wr.cell? ⟨bt, of + j * 55 + 2 + 2, none⟩ = some (.int .u32 (t.inn.i : Int)) := hr 4 _ rfl
   have c5 : wr.cell? ⟨bt, of + j * 55 + 5, none⟩ = some (.bool t.h.view) := hr 5 _ rfl
   have e0 : wr.cell? ⟨w.heap.size, 0, none⟩ = some (.int .u32 (I.e : Int)) := a7.cell 0 _ rfl
   have e1 : wr.cell? ⟨w.heap.size, 1, none⟩ = some (.int .u32 (I.c : Int)) := a7.cell 1 _ rfl
   have e2 : wr.cell? ⟨w.heap.size, 2, none⟩ = some (.int .u32 (I.i : Int)) := a7.cell 2 _ rfl
   clear hr
   by_cases h1 : t.who = d
   ·have d1 : ((t.who : Int) == (d : Int)) = true := by simp [h1]
    by_cases h2 : t.inc = n
    ·have d2 : ((t.inc : Int) == (n : Int)) = true := by simp [h2]
     obtain ⟨sI, hsI⟩ : ∃ s, Idn.same t.inn I = s := ⟨_, rfl⟩
     have kI : ∀ w, (binOp .eql 51 (.agg #[.int .u32 (t.inn.e : Int), .int .u32 (t.inn.c : Int), .int .u32 (t.inn.i : Int)]) (.agg #[.int .u32 (I.e : Int), .int .u32 (I.c : Int), .int .u32 (I.i : Int)])).run Tryz.prog w = .ok (.bool sI) w := eqlIdn _ _ sI hsI
     cases sI with
     | false =>
      have hno' := hno (fun h => by rw [(Idn.same_iff _ _).2 h.2.2.1] at hsI; cases hsI) a9
      clear hno hyes hft ht h1 h2 hsI
      go_upto_region 5 with fail
      try simp only [Act.put, List.setIfInBounds_toArray, List.set_cons_zero, List.set_cons_succ]
      go_region
      have hb := Below.drew (Below.refl wr.heap.size wr)
      have a9' := hno' _ hb
      replace a7 := a7.below hb
      replace a8 := a8.below hb
      replace hS := hS.below hb
      replace hB := hB.trans (hb.mono hB.size)
      generalize wr.drew = w1 at hb a7 a8 a9' hS hB ⊢
      clear hno' a9 c0 c1 c2 c3 c4 c5 e0 e1 e2 hb hbl
      go_wp2_with fail
      exact ⟨⟨j + 1, by omega, by go_num, a7, a8, a9', hS, hB⟩, by simp [intOf]; omega⟩
     | true =>
      have h3 := (Idn.same_iff _ _).1 hsI
      cases hv : t.h.view with
      | true =>
       rw [hv] at c5
       have hno' := hno (fun h => by rw [hv] at h; cases h.2.2.2) a9
       clear hno hyes hft ht h1 h2 hsI h3 hv
       go_upto_region 5 with fail
       try simp only [Act.put, List.setIfInBounds_toArray, List.set_cons_zero, List.set_cons_succ]
       go_region
       have hb := Below.drew (Below.refl wr.heap.size wr)
       have a9' := hno' _ hb
       replace a7 := a7.below hb
       replace a8 := a8.below hb
       replace hS := hS.below hb
       replace hB := hB.trans (hb.mono hB.size)
       generalize wr.drew = w1 at hb a7 a8 a9' hS hB ⊢
       clear hno' a9 c0 c1 c2 c3 c4 c5 e0 e1 e2 hb hbl
       go_wp2_with fail
       exact ⟨⟨j + 1, by omega, by go_num, a7, a8, a9', hS, hB⟩, by simp [intOf]; omega⟩
      | false =>
       rw [hv] at c5
       obtain ⟨q, hq, hfq⟩ := hft hv
       have HY : Hid ((fun q => cnt (T.take (j + 1)) d n I q) = put8 K q (K q + 1)) := hyes q ⟨h1, h2, h3, hv, hfq⟩
       have hKq := hle q
       have a5 := and7c q hq
       have q0 : (0 : Int) ≤ (q : Int) := by omega
       have q8 : (q : Int) < 8 := by omega
       have u1 : IntKind.u32.wrap ((K q : Int) + 1) = ((K q + 1 : Nat) : Int) := by rw [IntKind.wrap_u32]; omega
       clear hno hyes hft ht h1 h2 hsI h3 hle
       go_upto_region 5 with fail
       try simp only [Act.put, List.setIfInBounds_toArray, List.set_cons_zero, List.set_cons_succ]
       go_region
       have hb := Below.drew (Below.refl wr.heap.size wr)
       replace a7 := a7.below hb
       replace a8 := a8.below hb
       replace a9 := a9.below hb
       replace hS := hS.below hb
       replace hB := hB.trans (hb.mono hB.size)
       generalize wr.drew = w1 at hb a7 a8 a9 hS hB ⊢
       clear c0 c1 c2 c3 c4 c5 e0 e1 e2 hbl kI
       have c6 : w1.cell? ⟨bt, of + j * 55 + 6, none⟩ = some (.int .i64 (q : Int)) := by rw [← hfq]; exact hS.rng Td.vals_length j t HT.out 6 _ rfl
       have c9 : w1.cell? ⟨z9, q, none⟩ = some (.int .u32 (K q : Int)) := a9.cell q _ (mbc_get K q hq)
       clear hb hfq hv
       go_wp2_with (refine store_one rfl 37 _ _ rfl (off := q) (.int .u32 ((K q + 1 : Nat) : Int)) a9 (by go_simp) rfl rfl rfl sizeU32 (by rw [mbc_size]; omega) ?_; intro W3 b3 k3)
       rw [mbc_put K q (K q + 1) hq, ← HY.out] at b3
       replace a7 := a7.kp1 k3 h79
       replace a8 := a8.kp1 k3 h89
       replace hS := hS.kept k3 (fun b' o' e' => by simp at e'; simp; omega)
       replace hB := hB.trans (k3.below1 hz hB.size)
       exact ⟨⟨j + 1, by omega, by go_num, a7, a8, b3, hS, hB⟩, by simp [intOf]; omega⟩
    ·have d2 : ((t.inc : Int) == (n : Int)) = false := by rw [beq_eq_false_iff_ne]; omega
     have hno' := hno (fun h => h2 h.2.1) a9
     clear hno hyes hft ht h1 h2
     go_upto_region 5 with fail
     try simp only [Act.put, List.setIfInBounds_toArray, List.set_cons_zero, List.set_cons_succ]
     go_region
     have hb := Below.drew (Below.refl wr.heap.size wr)
     have a9' := hno' _ hb
     replace a7 := a7.below hb
     replace a8 := a8.below hb
     replace hS := hS.below hb
     replace hB := hB.trans (hb.mono hB.size)
     generalize wr.drew = w1 at hb a7 a8 a9' hS hB ⊢
     clear hno' a9 c0 c1 c2 c3 c4 c5 e0 e1 e2 hb hbl
     go_wp2_with fail
     exact ⟨⟨j + 1, by omega, by go_num, a7, a8, a9', hS, hB⟩, by simp [intOf]; omega⟩
   ·have d1 : ((t.who : Int) == (d : Int)) = false := by rw [beq_eq_false_iff_ne]; omega
    have hno' := hno (fun h => h1 h.1) a9
    clear hno hyes hft ht h1
    go_upto_region 5 with fail
    try simp only [Act.put, List.setIfInBounds_toArray, List.set_cons_zero, List.set_cons_succ]
    go_region
    have hb := Below.drew (Below.refl wr.heap.size wr)
    have a9' := hno' _ hb
    replace a7 := a7.below hb
    replace a8 := a8.below hb
    replace hS := hS.below hb
    replace hB := hB.trans (hb.mono hB.size)
    generalize wr.drew = w1 at hb a7 a8 a9' hS hB ⊢
    clear hno' a9 c0 c1 c2 c3 c4 c5 e0 e1 e2 hb hbl
    go_wp2_with fail
    exact ⟨⟨j + 1, by omega, by go_num, a7, a8, a9', hS, hB⟩, by simp [intOf]; omega⟩
  ·obtain rfl : j = N := by omega
   obtain ⟨K, HK⟩ : ∃ K, Hid ((fun q => cnt (T.take j) d n I q) = K) := ⟨_, rfl⟩
   rw [HK.out] at a9
   have hpa : putAt (mbc noMb) 0 (mbc K).toList = mbc K := putAt_all _ _ rfl
   go_wp2_with (first | refine load_blk rfl 60 _ rfl a9 rfl Tryz.underlying60 rfl sizeCt ?_ | (refine store_part rfl 60 _ _ rfl (off := 0) (cells := mbc K) a8 rfl rfl sizeCt (by simp [mbc_size]) (mbc_one _) ?_; intro w2 b2 k2; rw [hpa] at b2; have hB2 : Below w.heap.size w w2 := hB.trans (k2.below1 hz8 hB.size)))
   exact bodyPost_ret (w := w2) (v := .agg (mbc K)) (ret_one rfl rfl b2 Tryz.underlying60 rfl sizeCt) rfl ⟨by rw [HK.out], hB2⟩
end Go.Proofs.YthgfpdidilolgaaGreat
