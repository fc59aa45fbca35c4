/-
  Of the texts beneath these laws, in their order: ClY.
  Each theorem says its own conditions.
-/
import Derived.Test.YthgfpdidilolgaaGreatClXX
import Derived.Test.YthgfpdidilolgaaGreatRdEX
namespace Go.Proofs.YthgfpdidilolgaaGreat
set_option maxRecDepth 10000
open Go.RowKit Go.Sort
set_option linter.unusedVariables false
set_option linter.unusedSimpArgs false
theorem cnt_at {i n q : Nat} {I : Idn} : ∀ (s : Nat) (A : List Td), s < cnt A i n I q → ∃ A1 t A2, A = A1 ++ t :: A2 ∧ cntB i n I q t = true ∧ cnt A1 i n I q = s
 | s, [], h => by simp [cnt] at h
 | s, x :: A, h => by
  have e : cnt (x :: A) i n I q = cnt [x] i n I q + cnt A i n I q := cnt_app [x] A i n I q
  rw [cnt_one] at e
  cases hx : cntB i n I q x with
  | false =>
   rw [hx] at e
   simp at e
   obtain ⟨A1, t, A2, h1, h2, h3⟩ := cnt_at (i := i) (n := n) (I := I) (q := q) s A (by omega)
   refine ⟨x :: A1, t, A2, by rw [h1]; rfl, h2, ?_⟩
   have e2 : cnt (x :: A1) i n I q = cnt [x] i n I q + cnt A1 i n I q := cnt_app [x] A1 i n I q
   rw [e2, cnt_one, hx, h3]
   simp
  | true =>
   rw [hx] at e
   simp at e
   cases s with
   | zero => exact ⟨[], x, A, rfl, hx, rfl⟩
   | succ s =>
    obtain ⟨A1, t, A2, h1, h2, h3⟩ := cnt_at (i := i) (n := n) (I := I) (q := q) s A (by omega)
    refine ⟨x :: A1, t, A2, by rw [h1]; rfl, h2, ?_⟩
    have e2 : cnt (x :: A1) i n I q = cnt [x] i n I q + cnt A1 i n I q := cnt_app [x] A1 i n I q
    rw [e2, cnt_one, hx, h3]
    simp
    omega
theorem PW_same {n : Nat} {G : List Gh} {T : List Td} (g : GI n G T) {X : Idn} {m m' : Nat → Nat} (h : PW G X m) (h' : PW G X m') : ∀ q, q < 8 → m q = m' q := by
 obtain ⟨m1, h1, e1⟩ := h
 obtain ⟨m2, h2, e2⟩ := h'
 intro q hq
 rw [e1 q hq, e2 q hq]
 exact g.f1 X m1 m2 h1 h2 q hq
theorem safe_one {n : Nat} {G : List Gh} {T : List Td} (g : GI n G T) {i p k : Nat} {I : Idn} {m : Nat → Nat} (hm : PW G I m) {q d r : Nat} (hq : q < 8) (hd : d < 8) (hmd : m d ≠ 0) (h : r < cnt (T.take i) p k I q) : r ≤ cnt T q (m q) I d := by
 obtain ⟨A1, t, A2, h1, h2, h3⟩ := cnt_at r (T.take i) h
 have hT : T = A1 ++ t :: (A2 ++ T.drop i) := by
  rw [← List.cons_append, ← List.append_assoc, ← h1, List.take_append_drop]
 have hO := g.tt _ _ _ hT
 obtain ⟨c1, c2, c3, c4, c5⟩ := cntB_iff.1 h2
 have hrd := hO.c c4 q c5
 rw [c1, c2, c3, h3] at hrd
 have hb : ∃ b ∈ T, b.h.view = false ∧ b.who = q ∧ b.inn = I ∧ b.h.k.fr = (q : Int) ∧ b.h.k.rd = r + 1 := by
  rcases hO.o c4 with e | ⟨b, hb, hk, e⟩
  ·rw [c5] at e
   exact ⟨t, by rw [hT]; simp, c4, by omega, c3, c5, hrd⟩
  ·rw [c5] at e
   exact ⟨b, by rw [hT]; exact List.mem_append_left _ hb, hk.1, by omega, hk.2.1.trans c3, hk.2.2.1.trans c5, hk.2.2.2.trans hrd⟩
 obtain ⟨b, hbT, b1, b2, b3, b4, b5⟩ := hb
 have hA := g.ta b hbT
 obtain ⟨m', hm', e'⟩ := hA.inn
 rw [b3] at hm'
 rw [b2] at e'
 have e2 := PW_same g hm hm' q hq
 have := hA.sf b1 (by rw [b4, b2]) m (by rw [b3]; exact hm) d hd hmd
 rw [b5, b2, b3, ← e', ← e2] at this
 omega
theorem safe_all {n : Nat} {G : List Gh} {T : List Td} (g : GI n G T) {i p k : Nat} {I : Idn} {m : Nat → Nat} (hm : PW G I m) {q : Nat} (hq : q ∈ lst m) (h2 : 2 ≤ leastC (fun d => cnt (T.take i) p k I d) m) : fullB (fun d => cnt T q (m q) I d) m (leastC (fun d => cnt (T.take i) p k I d) m - 1) = true := by
 unfold fullB
 rw [List.all_eq_true]
 intro d hd
 rw [decide_eq_true_eq]
 have hl := leastC_le (fun d => cnt (T.take i) p k I d) m q hq
 obtain ⟨hq8, _⟩ := (mem_lst _ _).1 hq
 obtain ⟨hd8, hd0⟩ := (mem_lst _ _).1 hd
 exact safe_one g hm hq8 hd8 hd0 (by show _ < cnt (T.take i) p k I q; omega)
def isV (I : Idn) (t : Td) : Bool := t.h.view && Idn.same t.h.conf I
def memB (T : List Td) (I : Idn) : Nat → Nat :=
 match T.find? (isV I) with
 | some t => t.h.mem
 | none => put8 noMb I.c I.i
theorem memB_at {T : List Td} {I : Idn} {j : Nat} {t : Td} (ht : T[j]? = some t) (hv : isV I t = true) (h0 : ∀ k ∈ T.take j, isV I k = false) : memB T I = t.h.mem := by
 have e : T.find? (isV I) = some t := by
  rw [List.find?_eq_some_iff_append]
  refine ⟨hv, T.take j, T.drop (j + 1), ?_, fun a ha => by rw [h0 a ha]; rfl⟩
  rw [← List.drop_eq_getElem_cons2 ht, List.take_append_drop]
 unfold memB
 rw [e]
theorem memB_no {T : List Td} {I : Idn} (h : ∀ k ∈ T, isV I k = false) : memB T I = put8 noMb I.c I.i := by
 have e : T.find? (isV I) = none := by
  rw [List.find?_eq_none]
  intro k hk
  rw [h k hk]
  exact Bool.false_ne_true
 unfold memB
 rw [e]
theorem memB_pw {n : Nat} {G : List Gh} {T : List Td} (g : GI n G T) (hn : n ≤ 8) {a : Td} (ha : a ∈ T) : PW G a.inn (memB T a.inn) ∧ ((∀ k ∈ T, isV a.inn k = false) → a.inn.c < 8) := by
 have hA := g.ta a ha
 cases e : T.find? (isV a.inn) with
 | some t =>
  have h1 := List.find?_some e
  have h2 := List.mem_of_find?_eq_some e
  unfold isV at h1
  rw [Bool.and_eq_true, Idn.same_iff] at h1
  refine ⟨?_, fun h => by have := h t h2; rw [List.find?_some e] at this; cases this⟩
  unfold memB
  rw [e]
  have := ((g.ta t h2).vm h1.1).2.2.1
  rw [h1.2] at this
  exact this
 | none =>
  rw [List.find?_eq_none] at e
  have he : a.inn.e = 0 := by
   apply Classical.byContradiction
   intro h
   obtain ⟨b, h1, h2, h3⟩ := hA.viw h
   exact e b h1 (by unfold isV; rw [h2, (Idn.same_iff _ _).2 h3]; rfl)
  obtain ⟨h1, h2⟩ := hA.ini he
  have e2 : ∀ k ∈ T, isV a.inn k = false := fun k hk => Bool.eq_false_iff.2 (e k hk)
  rw [memB_no e2]
  exact ⟨h1, fun _ => by omega⟩
theorem and7u (d : Nat) (h : d < 8) : bits .and .u32 (d : Int) 7 = (d : Int) := by
 have : d = 0 ∨ d = 1 ∨ d = 2 ∨ d = 3 ∨ d = 4 ∨ d = 5 ∨ d = 6 ∨ d = 7 := by omega
 rcases this with rfl | rfl | rfl | rfl | rfl | rfl | rfl | rfl <;> decide
theorem range_mem {w : World} {b o : Nat} {t : Td} (h : w.rangeAt b o t.vals) : w.rangeAt b (o + 47) (row8 t.h.mem) := fun k v hv => by
 have e : t.vals[47 + k]? = (row8 t.h.mem)[k]? := by
  rw [← List.getElem?_drop]
  rfl
 have := h (47 + k) v (by rw [e]; exact hv)
 rw [Nat.add_assoc]
 exact this
set_option maxHeartbeats 8000000 in
theorem members_ok (T : List Td) (ta : Option Addr) (tc : Nat) (I : Idn) (hN : T.length ≤ 4294967294) (hc : (∀ k ∈ T, isV I k = false) → I.c < 8) (w : World) (hS : Li Td.vals 0 ta T w) :
  Calls Tryz.prog 18 #[.slice ta T.length tc, .agg I.arr] w fun e w' => e = .returned (.agg (mbc (memB T I))) ∧ Below w.heap.size w w' := by
 obtain ⟨N, hn⟩ : ∃ N, Hid (T.length = N) := ⟨_, rfl⟩
 rw [hn.out] at hN ⊢
 obtain ⟨a3, a4, hB⟩ := two_blk (T0 := 51) (T1 := 55) (C0 := I.arr) (C1 := mbc noMb) (w := w) rfl
 go_enter Tryz.func18, Tryz.ntmps18
 go_upto_region 1 with (go_big_may; refine alloc_zero zeroMb rfl rfl ?_)
 try simp only [Act.put, List.setIfInBounds_toArray, List.set_cons_zero, List.set_cons_succ]
 obtain ⟨z4, e4⟩ : ∃ z4, (w.alloc (Obj.cells I.arr 51)).heap.size = z4 := ⟨_, rfl⟩
 have e4' : w.heap.size + 1 = z4 := by rw [← e4]; simp
 rw [e4'] at a4
 rw [e4]
 generalize (w.alloc (Obj.cells I.arr 51)).alloc (Obj.cells (mbc noMb) 55) = V at a3 a4 hB ⊢
 have hz4 : w.heap.size ≤ z4 := by omega
 clear e4 e4'
 go_wp2_with fail
 go_loopw [5] (fun iv wr => ∃ j : Nat, j ≤ N ∧ iv = .int .i64 j ∧ Hid (∀ k ∈ T.take j, isV I k = false) ∧ Blk w.heap.size I.arr 51 wr ∧ Blk z4 (mbc noMb) 55 wr ∧ Li Td.vals 0 ta T wr ∧ Below w.heap.size w wr) (fun iv _ => N - (intOf iv).toNat)
 case atStart => exact ⟨0, by omega, rfl, fun k hk => by simp at hk, a3, a4, hS.below hB, hB⟩
 case round =>
  clear a3 a4 hS hB
  obtain ⟨j, hj, rfl, h0, a3, a4, hS, hB⟩ := hrel
  rename World => wr
  by_cases hjn : j < N
  ·have j0 : (j : Int) < (N : Int) := by omega
   have j1 : (0 : Int) ≤ (j : Int) := by omega
   obtain ⟨t, ht⟩ : ∃ t, T[j]? = some t := ⟨_, List.getElem?_eq_getElem (by rw [hn.out]; exact hjn)⟩
   have HT : Hid (T[j]? = some t) := ht
   obtain ⟨bt, of, rfl, _, hbl, hr⟩ := hS.at Td.vals_length j t ht
   have hnx : isV I t = false → Hid (∀ k ∈ T.take (j + 1), isV I k = false) := fun hv k hk => by
    rw [List.take_add_one, ht] at hk
    rcases List.mem_append.1 hk with hk | hk
    ·exact h0.out k hk
    ·simp at hk
     rw [hk]
     exact hv
   have hyes : isV I t = true → Hid (memB T I = t.h.mem) := fun hv => memB_at ht hv h0.out
   have c5 : wr.cell? ⟨bt, of + j * 55 + 5, none⟩ = some (.bool t.h.view) := hr 5 _ rfl
   have c44 : wr.cell? ⟨bt, of + j * 55 + 44, none⟩ = some (.int .u32 (t.h.conf.e : Int)) := hr 44 _ rfl
   have c45 : wr.cell? ⟨bt, of + j * 55 + 44 + 1, none⟩ = some (.int .u32 (t.h.conf.c : Int)) := hr 45 _ rfl
   have c46 : wr.cell? ⟨bt, of + j * 55 + 44 + 2, none⟩ = some (.int .u32 (t.h.conf.i : Int)) := hr 46 _ rfl
   have e0 : wr.cell? ⟨w.heap.size, 0, none⟩ = some (.int .u32 (I.e : Int)) := a3.cell 0 _ rfl
   have e1 : wr.cell? ⟨w.heap.size, 1, none⟩ = some (.int .u32 (I.c : Int)) := a3.cell 1 _ rfl
   have e2 : wr.cell? ⟨w.heap.size, 2, none⟩ = some (.int .u32 (I.i : Int)) := a3.cell 2 _ rfl
   obtain ⟨sI, hsI⟩ : ∃ s, Idn.same t.h.conf I = s := ⟨_, rfl⟩
   have kI : ∀ w, (binOp .eql 51 (.agg #[.int .u32 (t.h.conf.e : Int), .int .u32 (t.h.conf.c : Int), .int .u32 (t.h.conf.i : Int)]) (.agg #[.int .u32 (I.e : Int), .int .u32 (I.c : Int), .int .u32 (I.i : Int)])).run Tryz.prog w = .ok (.bool sI) w := eqlIdn _ _ sI hsI
   clear ht h0 hr
   cases hv : t.h.view with
   | false =>
    rw [hv] at c5
    have HN' : Hid (∀ k ∈ T.take (j + 1), isV I k = false) := hnx (by unfold isV; rw [hv]; rfl)
    clear hnx
    go_upto_region 4 with fail
    try simp only [Act.put, List.setIfInBounds_toArray, List.set_cons_zero, List.set_cons_succ]
    go_region
    have hb := Below.drew (Below.refl wr.heap.size wr)
    replace a3 := a3.below hb
    replace a4 := a4.below hb
    replace hS := hS.below hb
    replace hB := hB.trans (hb.mono hB.size)
    generalize wr.drew = w1 at hb a3 a4 hS hB ⊢
    clear hb hbl c5 c44 c45 c46 e0 e1 e2
    go_wp2_with fail
    exact ⟨⟨j + 1, by omega, by go_num, HN', a3, a4, hS, hB⟩, by simp [intOf]; omega⟩
   | true =>
    rw [hv] at c5
    cases sI with
    | false =>
     have HN' : Hid (∀ k ∈ T.take (j + 1), isV I k = false) := hnx (by unfold isV; rw [hsI, Bool.and_false])
     clear hnx
     go_upto_region 4 with fail
     try simp only [Act.put, List.setIfInBounds_toArray, List.set_cons_zero, List.set_cons_succ]
     go_region
     have hb := Below.drew (Below.refl wr.heap.size wr)
     replace a3 := a3.below hb
     replace a4 := a4.below hb
     replace hS := hS.below hb
     replace hB := hB.trans (hb.mono hB.size)
     generalize wr.drew = w1 at hb a3 a4 hS hB ⊢
     clear hb hbl c5 c44 c45 c46 e0 e1 e2
     go_wp2_with fail
     exact ⟨⟨j + 1, by omega, by go_num, HN', a3, a4, hS, hB⟩, by simp [intOf]; omega⟩
    | true =>
     have HY := hyes (by unfold isV; rw [hv, hsI]; rfl)
     clear hnx hyes hsI hv
     go_upto_region 4 with fail
     try simp only [Act.put, List.setIfInBounds_toArray, List.set_cons_zero, List.set_cons_succ]
     go_region
     have hb := Below.drew (Below.refl wr.heap.size wr)
     replace a3 := a3.below hb
     replace a4 := a4.below hb
     replace hS := hS.below hb
     replace hB := hB.trans (hb.mono hB.size)
     generalize wr.drew = w1 at hb a3 a4 hS hB ⊢
     clear hb hbl c5 c44 c45 c46 e0 e1 e2
     have hr47 := range_mem (hS.rng Td.vals_length j t HT.out)
     obtain ⟨K, HK⟩ : ∃ K, Hid (t.h.mem = K) := ⟨_, rfl⟩
     rw [HK.out] at hr47
     have hpa : putAt (mbc noMb) 0 (mbc K).toList = mbc K := putAt_all _ _ rfl
     clear kI
     go_wp2_with (first | refine load_range rfl 55 _ rfl (o := of + j * 55 + 47) (row8 K) hr47 rfl Tryz.underlying55 rfl sizeMb ?_ | (refine store_part rfl 55 _ _ rfl (off := 0) (cells := mbc K) a4 rfl rfl sizeMb (by simp [mbc_size]) (mbc_one _) ?_; intro w2 b2 k2; rw [hpa] at b2; have hB2 : Below w.heap.size w w2 := hB.trans (k2.below1 hz4 hB.size)))
     exact bodyPost_ret (w := w2) (v := .agg (mbc K)) (ret_one rfl rfl b2 Tryz.underlying55 rfl sizeMb) rfl ⟨by rw [HY.out, HK.out], hB2⟩
  ·obtain rfl : j = N := by omega
   have hall : ∀ k ∈ T, isV I k = false := fun k hk => h0.out k (by rw [List.take_of_length_le (by rw [hn.out]; omega)]; exact hk)
   have HY : Hid (memB T I = put8 noMb I.c I.i) := memB_no hall
   have hc8 := hc hall
   have a7 := and7u I.c hc8
   have c8 : (I.c : Int) < 8 := by omega
   have c9 : (0 : Int) ≤ (I.c : Int) := by omega
   have a6 := blk_new wr (mbc noMb) 55
   have hb := below_box wr (.cells (mbc noMb) 55)
   clear h0 hall hc
   go_upto_region 7 with (go_big_may; first | refine build_zero builtMb rfl rfl ?_ | refine alloc_zero zeroMb rfl rfl ?_ | refine store_new rfl 55 _ _ rfl (cells := mbc noMb) rfl rfl sizeMb rfl (mbc_one _) ?_)
   try simp only [Act.put, List.setIfInBounds_toArray, List.set_cons_zero, List.set_cons_succ]
   generalize hz6 : wr.heap.size = z6 at a6 ⊢
   have h36 : w.heap.size ≠ z6 := by have := a3.lt; omega
   have h46 : z4 ≠ z6 := by have := a4.lt; omega
   have hz : w.heap.size ≤ z6 := by rw [← hz6]; exact hB.size
   clear hz6
   generalize wr.alloc (Obj.cells (mbc noMb) 55) = W at a6 hb ⊢
   replace a3 := a3.below hb
   replace a4 := a4.below hb
   replace hB := hB.trans (hb.mono hB.size)
   have e1 : W.cell? ⟨w.heap.size, 1, none⟩ = some (.int .u32 (I.c : Int)) := a3.cell 1 _ rfl
   have e2 : W.cell? ⟨w.heap.size, 2, none⟩ = some (.int .u32 (I.i : Int)) := a3.cell 2 _ rfl
   clear hb
   go_upto_region 8 with (go_big_may; refine store_one rfl 37 _ _ rfl (off := I.c) (.int .u32 (I.i : Int)) a6 (by go_simp) rfl rfl rfl sizeU32 (by rw [mbc_size]; omega) ?_; intro W3 b3 k3)
   try simp only [Act.put, List.setIfInBounds_toArray, List.set_cons_zero, List.set_cons_succ]
   rw [mbc_put noMb I.c I.i hc8] at b3
   replace a4 := a4.kp1 k3 h46
   replace hB := hB.trans (k3.below1 hz hB.size)
   obtain ⟨K, HK⟩ : ∃ K, Hid (put8 noMb I.c I.i = K) := ⟨_, rfl⟩
   rw [HK.out] at b3
   have hpa : putAt (mbc noMb) 0 (mbc K).toList = mbc K := putAt_all _ _ rfl
   clear e1 e2 a7 k3
   go_wp2_with (first | refine load_blk rfl 55 _ rfl b3 rfl Tryz.underlying55 rfl sizeMb ?_ | (refine store_part rfl 55 _ _ rfl (off := 0) (cells := mbc K) a4 rfl rfl sizeMb (by simp [mbc_size]) (mbc_one _) ?_; intro w2 b2 k2; rw [hpa] at b2; have hB2 : Below w.heap.size w w2 := hB.trans (k2.below1 hz4 hB.size)))
   exact bodyPost_ret (w := w2) (v := .agg (mbc K)) (ret_one rfl rfl b2 Tryz.underlying55 rfl sizeMb) rfl ⟨by rw [HY.out, HK.out], hB2⟩
def NxtE (e : Ending) : Prop := ∃ (X : Idn) (g : Bool), e = .returned (.tuple #[.agg X.arr, .bool g])
set_option maxHeartbeats 8000000 in
theorem lnext_ok (T : List Td) (ta : Option Addr) (tc d n : Nat) (I : Idn) (hN : T.length ≤ 4294967294) (w : World) (hS : Li Td.vals 0 ta T w) :
  Calls Tryz.prog 20 #[.slice ta T.length tc, .int .i64 (d : Int), .int .u32 (n : Int), .agg I.arr] w fun e w' => NxtE e ∧ Below w.heap.size w w' := by
 obtain ⟨N, hn⟩ : ∃ N, Hid (T.length = N) := ⟨_, rfl⟩
 rw [hn.out] at hN ⊢
 obtain ⟨a7, a8, hB⟩ := two_blk (T0 := 51) (T1 := 51) (C0 := I.arr) (C1 := Idn.zero.arr) (w := w) rfl
 go_enter Tryz.func20, Tryz.ntmps20
 go_upto_region 1 with (go_big_may; refine alloc_zero zeroIdn rfl rfl ?_)
 try simp only [Act.put, List.setIfInBounds_toArray, List.set_cons_zero, List.set_cons_succ]
 obtain ⟨z8, e8⟩ : ∃ z8, (w.alloc (Obj.cells I.arr 51)).heap.size = z8 := ⟨_, rfl⟩
 have e8' : w.heap.size + 1 = z8 := by rw [← e8]; simp
 rw [e8'] at a8
 first | rw [e8] | rw [e8']
 generalize (w.alloc (Obj.cells I.arr 51)).alloc (Obj.cells Idn.zero.arr 51) = V at a7 a8 hB ⊢
 have hz8 : w.heap.size ≤ z8 := by omega
 clear e8 e8'
 go_wp2_with fail
 go_loopw [10] (fun iv wr => ∃ j : Nat, j ≤ N ∧ iv = .int .i64 j ∧ Blk w.heap.size I.arr 51 wr ∧ Blk z8 Idn.zero.arr 51 wr ∧ Li Td.vals 0 ta T wr ∧ Below w.heap.size w wr) (fun iv _ => N - (intOf iv).toNat)
 case atStart => exact ⟨0, by omega, rfl, a7, a8, hS.below hB, hB⟩
 case round =>
  clear a7 a8 hS hB
  obtain ⟨j, hj, rfl, a7, a8, hS, hB⟩ := hrel
  rename World => wr
  by_cases hjn : j < N
  ·have j0 : (j : Int) < (N : Int) := by omega
   have j1 : (0 : Int) ≤ (j : Int) := by omega
   obtain ⟨t, ht⟩ : ∃ t, T[j]? = some t := ⟨_, List.getElem?_eq_getElem (by rw [hn.out]; exact hjn)⟩
   obtain ⟨bt, of, rfl, _, hbl, hr⟩ := hS.at Td.vals_length j t ht
   have b9 := blk_new wr t.arr 59
   have hb := below_box wr (.cells t.arr 59)
   go_upto_region 5 with (go_big_may; first | refine load_range rfl 59 _ rfl (o := of + j * 55) t.vals hr rfl Tryz.underlying59 rfl sizeTd ?_ | refine alloc_zero zeroTd rfl rfl ?_ | refine store_new rfl 59 _ _ rfl (cells := t.arr) rfl rfl sizeTd rfl t.arr_one ?_)
   try simp only [Act.put, List.setIfInBounds_toArray, List.set_cons_zero, List.set_cons_succ]
   generalize wr.alloc (Obj.cells t.arr 59) = W at b9 hb ⊢
   replace a7 := a7.below hb
   replace a8 := a8.below hb
   replace hS := hS.below hb
   replace hB := hB.trans (hb.mono hB.size)
   generalize wr.heap.size = y at b9 ⊢
   clear hb hr hbl ht
   have c0 : W.cell? ⟨y, 0, none⟩ = some (.int .i64 (t.who : Int)) := b9.cell 0 _ rfl
   have c1 : W.cell? ⟨y, 1, none⟩ = some (.int .u32 (t.inc : Int)) := b9.cell 1 _ rfl
   have c2 : W.cell? ⟨y, 2, none⟩ = some (.int .u32 (t.inn.e : Int)) := b9.cell 2 _ rfl
   have c3 : W.cell? ⟨y, 3, none⟩ = some (.int .u32 (t.inn.c : Int)) := b9.cell 3 _ rfl
   have c4 : W.cell? ⟨y, 4, none⟩ = some (.int .u32 (t.inn.i : Int)) := b9.cell 4 _ rfl
   have c5 : W.cell? ⟨y, 5, none⟩ = some (.bool t.h.view) := b9.cell 5 _ rfl
   have c44 : W.cell? ⟨y, 44, none⟩ = some (.int .u32 (t.h.conf.e : Int)) := b9.cell 44 _ rfl
   have c45 : W.cell? ⟨y, 45, none⟩ = some (.int .u32 (t.h.conf.c : Int)) := b9.cell 45 _ rfl
   have c46 : W.cell? ⟨y, 46, none⟩ = some (.int .u32 (t.h.conf.i : Int)) := b9.cell 46 _ rfl
   have e0 : W.cell? ⟨w.heap.size, 0, none⟩ = some (.int .u32 (I.e : Int)) := a7.cell 0 _ rfl
   have e1 : W.cell? ⟨w.heap.size, 1, none⟩ = some (.int .u32 (I.c : Int)) := a7.cell 1 _ rfl
   have e2 : W.cell? ⟨w.heap.size, 2, none⟩ = some (.int .u32 (I.i : Int)) := a7.cell 2 _ rfl
   obtain ⟨sI, hsI⟩ : ∃ s, Idn.same t.inn I = s := ⟨_, rfl⟩
   have kI : ∀ w, (binOp .eql 51 (.agg #[.int .u32 (t.inn.e : Int), .int .u32 (t.inn.c : Int), .int .u32 (t.inn.i : Int)]) (.agg #[.int .u32 (I.e : Int), .int .u32 (I.c : Int), .int .u32 (I.i : Int)])).run Tryz.prog w = .ok (.bool sI) w := eqlIdn _ _ sI hsI
   clear hsI b9
   by_cases h1 : t.who = d
   ·have d1 : ((t.who : Int) == (d : Int)) = true := by simp [h1]
    by_cases h2 : t.inc = n
    ·have d2 : ((t.inc : Int) == (n : Int)) = true := by simp [h2]
     clear h1 h2
     cases sI with
     | false =>
      go_wp2_with fail
      exact ⟨⟨j + 1, by omega, by go_num, a7, a8, hS, hB⟩, by simp [intOf]; omega⟩
     | true =>
      cases hv : t.h.view with
      | false =>
       rw [hv] at c5
       go_wp2_with fail
       exact ⟨⟨j + 1, by omega, by go_num, a7, a8, hS, hB⟩, by simp [intOf]; omega⟩
      | true =>
       rw [hv] at c5
       have HX : NxtE (.returned (.tuple #[.agg t.h.conf.arr, .bool true])) := ⟨_, _, rfl⟩
       have hpa : putAt Idn.zero.arr 0 t.h.conf.arr.toList = t.h.conf.arr := putAt_all _ _ rfl
       go_wp2_with (refine store_part rfl 51 _ _ rfl (off := 0) (cells := t.h.conf.arr) a8 rfl rfl sizeIdn (show 0 + 3 ≤ 3 by decide) (Idn.arr_one _) ?_; intro w2 b2 k2)
       rw [hpa] at b2
       have hB2 : Below w.heap.size w w2 := hB.trans (k2.below1 hz8 hB.size)
       exact bodyPost_ret (w := w2) (v := .tuple #[.agg t.h.conf.arr, .bool true]) (ret_two rfl rfl b2 Tryz.underlying51 rfl sizeIdn rfl) rfl ⟨HX, hB2⟩
    ·have d2 : ((t.inc : Int) == (n : Int)) = false := by rw [beq_eq_false_iff_ne]; omega
     clear h1 h2
     clear kI
     go_wp2_with fail
     exact ⟨⟨j + 1, by omega, by go_num, a7, a8, hS, hB⟩, by simp [intOf]; omega⟩
   ·have d1 : ((t.who : Int) == (d : Int)) = false := by rw [beq_eq_false_iff_ne]; omega
    clear h1
    clear kI
    go_wp2_with fail
    exact ⟨⟨j + 1, by omega, by go_num, a7, a8, hS, hB⟩, by simp [intOf]; omega⟩
  ·obtain rfl : j = N := by omega
   have HX : NxtE (.returned (.tuple #[.agg Idn.zero.arr, .bool false])) := ⟨_, _, rfl⟩
   go_wp2_with (first | refine build_zero builtIdn rfl rfl ?_ | refine store_same rfl 51 _ _ rfl a8 rfl rfl sizeIdn (Idn.arr_one _) ?_)
   exact bodyPost_ret (v := .tuple #[.agg Idn.zero.arr, .bool false]) (ret_two rfl rfl a8 Tryz.underlying51 rfl sizeIdn rfl) rfl ⟨HX, hB⟩
end Go.Proofs.YthgfpdidilolgaaGreat
