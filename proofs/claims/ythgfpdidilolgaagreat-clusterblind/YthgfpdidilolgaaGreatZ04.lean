/-
  Of the texts beneath these laws, in their order: BtA, BtB, CeM, CeU, CeW.
  Each theorem says its own conditions.
-/
import Derived.Test.YthgfpdidilolgaaGreatZ00
import Derived.Test.YthgfpdidilolgaaGreatZ03
namespace Go.Proofs.YthgfpdidilolgaaGreat
set_option maxRecDepth 10000
open Go.RowKit Go.Sort
def tickB (b : Bt) : Bt := ⟨if b.now < 4294967295 then b.now + 1 else b.now, b.hd, b.inc⟩
def hearsB (b : Bt) (i : Int) (n : Nat) : Bool := decide (0 ≤ i ∧ i < 8 ∧ n ≠ 0 ∧ b.now ≠ 0 ∧ b.inc i.toNat ≤ n)
def hearB (b : Bt) (i : Int) (n : Nat) : Bt := if hearsB b i n = true then ⟨b.now, put8 b.hd i.toNat b.now, put8 b.inc i.toNat n⟩ else b
set_option maxHeartbeats 1000000 in
theorem tick_ok (b : Bt) (w : World) : Calls Tryz.prog 100 #[.agg b.arr] w fun e w' => e = .returned (.agg (tickB b).arr) ∧ Below w.heap.size w w' := by
 obtain ⟨a1, a2, hB⟩ := two_blk (T0 := 72) (T1 := 72) (C0 := b.arr) (C1 := Bt.zero.arr) (w := w) rfl
 have hpa : putAt Bt.zero.arr 0 (tickB b).arr.toList = (tickB b).arr := putAt_all _ _ rfl
 obtain ⟨D, hD⟩ : ∃ D, tickB b = D := ⟨_, rfl⟩
 have HD : Hid (tickB b = D) := hD
 rw [hD] at hpa ⊢
 clear hD
 go_enter Tryz.func100, Tryz.ntmps100
 go_upto_region 1 with (refine alloc_zero zeroBt rfl rfl ?_)
 generalize (w.alloc (Obj.cells b.arr 72)).alloc (Obj.cells Bt.zero.arr 72) = W at a1 a2 hB ⊢
 have c0 := a1.cell 0 _ b.get_now
 by_cases h : b.now < 4294967295
 ·have h1 : decide ((b.now : Int) < 4294967295) = true := by simp; omega
  have h2 : IntKind.u32.wrap ((b.now : Int) + 1) = (b.now : Int) + 1 := by rw [IntKind.wrap_u32]; omega
  have hst : b.arr.setIfInBounds 0 (.int .u32 ((b.now : Int) + 1)) = D.arr := by
   rw [← HD.out, show tickB b = ⟨b.now + 1, b.hd, b.inc⟩ by simp [tickB, h], ← Bt.set_now]; rfl
  clear h HD
  go_wp2_with (first | (refine store_one rfl 37 _ _ rfl (off := 0) (.int .u32 ((b.now : Int) + 1)) a1 rfl rfl rfl rfl sizeU32 (by rw [Bt.arr_size]; omega) ?_; intro w2 b2 k2; rw [hst] at b2; have e2 := a2.kp1 k2 (by omega); have hB2 : Below w.heap.size w w2 := hB.trans (k2.below1 (by omega) hB.size)) | refine load_blk rfl 72 _ rfl b2 rfl Tryz.underlying72 rfl D.size ?_ | (refine store_part rfl 72 _ _ rfl (off := 0) (cells := D.arr) e2 rfl rfl D.size (by simp [Bt.arr_size]) D.arr_one ?_; intro w9 b9 k9; rw [hpa] at b9; have hB9 : Below w.heap.size w w9 := hB2.trans (k9.below1 (by omega) hB2.size)))
  refine bodyPost_ret (w := w9) (v := .agg D.arr) (ret_one rfl rfl b9 Tryz.underlying72 rfl D.size) rfl ⟨rfl, hB9⟩
 ·have h1 : decide ((b.now : Int) < 4294967295) = false := by simp; omega
  have hD : D = b := by rw [← HD.out]; simp [tickB, h]
  subst hD
  clear h HD
  go_wp2_with (first | refine load_blk rfl 72 _ rfl a1 rfl Tryz.underlying72 rfl D.size ?_ | (refine store_part rfl 72 _ _ rfl (off := 0) (cells := D.arr) a2 rfl rfl D.size (by simp [Bt.arr_size]) D.arr_one ?_; intro w9 b9 k9; rw [hpa] at b9; have hB9 : Below w.heap.size w w9 := hB.trans (k9.below1 (by omega) hB.size)))
  refine bodyPost_ret (w := w9) (v := .agg D.arr) (ret_one rfl rfl b9 Tryz.underlying72 rfl D.size) rfl ⟨rfl, hB9⟩
set_option maxHeartbeats 1000000 in
theorem hear_ok (b : Bt) (i : Int) (n : Nat) (w : World) : Calls Tryz.prog 148 #[.agg b.arr, .int .i64 i, .int .u32 (n : Int)] w fun e w' => e = .returned (.tuple #[.agg (hearB b i n).arr, .bool (hearsB b i n)]) ∧ Below w.heap.size w w' := by
 obtain ⟨a1, a2, hB⟩ := two_blk (T0 := 72) (T1 := 72) (C0 := b.arr) (C1 := Bt.zero.arr) (w := w) rfl
 have hpa : putAt Bt.zero.arr 0 (hearB b i n).arr.toList = (hearB b i n).arr := putAt_all _ _ rfl
 obtain ⟨D, hD⟩ : ∃ D, hearB b i n = D := ⟨_, rfl⟩
 have HD : Hid (hearB b i n = D) := hD
 obtain ⟨O, hO⟩ : ∃ O, hearsB b i n = O := ⟨_, rfl⟩
 have HO : Hid (hearsB b i n = O) := hO
 rw [hD] at hpa ⊢
 rw [hO]
 clear hD hO
 go_enter Tryz.func148, Tryz.ntmps148
 go_upto_region 1 with (refine alloc_zero zeroBt rfl rfl ?_)
 generalize (w.alloc (Obj.cells b.arr 72)).alloc (Obj.cells Bt.zero.arr 72) = W at a1 a2 hB ⊢
 have c0 := a1.cell 0 _ b.get_now
 by_cases h0 : 0 ≤ i
 ·by_cases h1 : i < 8
  ·obtain ⟨k, rfl⟩ : ∃ k : Nat, i = (k : Int) := ⟨i.toNat, by omega⟩
   have c1 := a1.cell (9 + k) _ (b.get_inc k (by omega))
   have g0 : decide ((k : Int) < 0) = false := by simp
   have g1 : decide ((8 : Int) ≤ (k : Int)) = false := by simp; omega
   have g2 : decide ((7 : Int) < (k : Int)) = false := by simp; omega
   by_cases h2 : n = 0
   ·subst h2
    obtain rfl : O = false := by rw [← HO.out]; simp [hearsB]
    have hD : D = b := by rw [← HD.out, hearB, HO.out]; rfl
    subst hD
    clear HD HO
    go_wp2_with (first | refine load_blk rfl 72 _ rfl a1 rfl Tryz.underlying72 rfl D.size ?_ | (refine store_part rfl 72 _ _ rfl (off := 0) (cells := D.arr) a2 rfl rfl D.size (by simp [Bt.arr_size]) D.arr_one ?_; intro w9 b9 k9; rw [hpa] at b9; have hB9 : Below w.heap.size w w9 := hB.trans (k9.below1 (by omega) hB.size)))
    refine bodyPost_ret (w := w9) (v := .tuple #[.agg D.arr, .bool false]) (ret_two rfl rfl b9 Tryz.underlying72 rfl D.size rfl) rfl ⟨rfl, hB9⟩
   ·have h2' : ((n : Int) == 0) = false := by rw [beq_eq_false_iff_ne]; omega
    by_cases h3 : b.now = 0
    ·have c0' := c0
     rw [h3] at c0'
     clear c0
     obtain rfl : O = false := by rw [← HO.out]; simp [hearsB, h3]
     have hD : D = b := by rw [← HD.out, hearB, HO.out]; rfl
     subst hD
     clear HD HO
     go_wp2_with (first | refine load_blk rfl 72 _ rfl a1 rfl Tryz.underlying72 rfl D.size ?_ | (refine store_part rfl 72 _ _ rfl (off := 0) (cells := D.arr) a2 rfl rfl D.size (by simp [Bt.arr_size]) D.arr_one ?_; intro w9 b9 k9; rw [hpa] at b9; have hB9 : Below w.heap.size w w9 := hB.trans (k9.below1 (by omega) hB.size)))
     refine bodyPost_ret (w := w9) (v := .tuple #[.agg D.arr, .bool false]) (ret_two rfl rfl b9 Tryz.underlying72 rfl D.size rfl) rfl ⟨rfl, hB9⟩
    ·have h3' : ((b.now : Int) == 0) = false := by rw [beq_eq_false_iff_ne]; omega
     by_cases h4 : n < b.inc k
     ·have h4' : (n : Int) < (b.inc k : Int) := by omega
      obtain rfl : O = false := by rw [← HO.out]; simp [hearsB]; omega
      have hD : D = b := by rw [← HD.out, hearB, HO.out]; rfl
      subst hD
      clear HD HO
      go_wp2_with (first | refine load_blk rfl 72 _ rfl a1 rfl Tryz.underlying72 rfl D.size ?_ | (refine store_part rfl 72 _ _ rfl (off := 0) (cells := D.arr) a2 rfl rfl D.size (by simp [Bt.arr_size]) D.arr_one ?_; intro w9 b9 k9; rw [hpa] at b9; have hB9 : Below w.heap.size w w9 := hB.trans (k9.below1 (by omega) hB.size)))
      refine bodyPost_ret (w := w9) (v := .tuple #[.agg D.arr, .bool false]) (ret_two rfl rfl b9 Tryz.underlying72 rfl D.size rfl) rfl ⟨rfl, hB9⟩
     ·have h4' : ¬ (n : Int) < (b.inc k : Int) := by omega
      obtain rfl : O = true := by rw [← HO.out]; simp [hearsB, h2, h3]; omega
      have hD : ⟨b.now, put8 b.hd k b.now, put8 b.inc k n⟩ = D := by rw [← HD.out, hearB, HO.out]; rfl
      have s1 := b.set_hd k b.now (by omega)
      have s2 := (Bt.mk b.now (put8 b.hd k b.now) b.inc).set_inc k n (by omega)
      rw [show Bt.mk (Bt.mk b.now (put8 b.hd k b.now) b.inc).now (Bt.mk b.now (put8 b.hd k b.now) b.inc).hd (put8 (Bt.mk b.now (put8 b.hd k b.now) b.inc).inc k n) = D from hD] at s2
      obtain ⟨E, hE⟩ : ∃ E, Bt.mk b.now (put8 b.hd k b.now) b.inc = E := ⟨_, rfl⟩
      rw [hE] at s1 s2
      clear HD HO hD hE h2 h3 h4
      go_wp2_with (first | (refine store_one rfl 37 _ _ rfl (off := 1 + k) (.int .u32 (b.now : Int)) a1 rfl rfl rfl rfl sizeU32 (by rw [Bt.arr_size]; omega) ?_; intro w2 b2 k2; rw [s1] at b2; have e2 := a2.kp1 k2 (by omega); have hB2 : Below w.heap.size w w2 := hB.trans (k2.below1 (by omega) hB.size)) | (refine store_one rfl 37 _ _ rfl (off := 9 + k) (.int .u32 (n : Int)) b2 rfl rfl rfl rfl sizeU32 (by rw [Bt.arr_size]; omega) ?_; intro w3 b3 k3; rw [s2] at b3; have e3 := e2.kp1 k3 (by omega); have hB3 : Below w.heap.size w w3 := hB2.trans (k3.below1 (by omega) hB2.size)) | refine load_blk rfl 72 _ rfl b3 rfl Tryz.underlying72 rfl D.size ?_ | (refine store_part rfl 72 _ _ rfl (off := 0) (cells := D.arr) e3 rfl rfl D.size (by simp [Bt.arr_size]) D.arr_one ?_; intro w9 b9 k9; rw [hpa] at b9; have hB9 : Below w.heap.size w w9 := hB3.trans (k9.below1 (by omega) hB3.size)))
      refine bodyPost_ret (w := w9) (v := .tuple #[.agg D.arr, .bool true]) (ret_two rfl rfl b9 Tryz.underlying72 rfl D.size rfl) rfl ⟨rfl, hB9⟩
  ·have h1' : decide ((8 : Int) ≤ i) = true := by simp; omega
   have h7' : decide ((7 : Int) < i) = true := by simp; omega
   have h0' : decide (i < 0) = false := by simp; omega
   obtain rfl : O = false := by rw [← HO.out]; simp [hearsB, h1]
   have hD : D = b := by rw [← HD.out, hearB, HO.out]; rfl
   subst hD
   clear HD HO
   go_wp2_with (first | refine load_blk rfl 72 _ rfl a1 rfl Tryz.underlying72 rfl D.size ?_ | (refine store_part rfl 72 _ _ rfl (off := 0) (cells := D.arr) a2 rfl rfl D.size (by simp [Bt.arr_size]) D.arr_one ?_; intro w9 b9 k9; rw [hpa] at b9; have hB9 : Below w.heap.size w w9 := hB.trans (k9.below1 (by omega) hB.size)))
   refine bodyPost_ret (w := w9) (v := .tuple #[.agg D.arr, .bool false]) (ret_two rfl rfl b9 Tryz.underlying72 rfl D.size rfl) rfl ⟨rfl, hB9⟩
 ·have h0' : i < 0 := by omega
  obtain rfl : O = false := by rw [← HO.out]; simp [hearsB, h0]
  have hD : D = b := by rw [← HD.out, hearB, HO.out]; rfl
  subst hD
  clear HD HO
  go_wp2_with (first | refine load_blk rfl 72 _ rfl a1 rfl Tryz.underlying72 rfl D.size ?_ | (refine store_part rfl 72 _ _ rfl (off := 0) (cells := D.arr) a2 rfl rfl D.size (by simp [Bt.arr_size]) D.arr_one ?_; intro w9 b9 k9; rw [hpa] at b9; have hB9 : Below w.heap.size w w9 := hB.trans (k9.below1 (by omega) hB.size)))
  refine bodyPost_ret (w := w9) (v := .tuple #[.agg D.arr, .bool false]) (ret_two rfl rfl b9 Tryz.underlying72 rfl D.size rfl) rfl ⟨rfl, hB9⟩
end Go.Proofs.YthgfpdidilolgaaGreat
namespace Go.Proofs.YthgfpdidilolgaaGreat
set_option maxRecDepth 10000
open Go.RowKit Go.Sort
def lateB (now h wt : Nat) : Bool := decide (h ≠ 0 ∧ h ≤ now ∧ now - h ≤ wt)
def rchB (b : Bt) (i : Int) (n wt : Nat) : Nat → Nat := fun j => if (j : Int) = i then n else if lateB b.now (b.hd j) wt = true then b.inc j else 0
def rchTo (b : Bt) (i : Int) (n wt : Nat) (j : Nat) : Nat → Nat := fun k => if k < j then rchB b i n wt k else 0
theorem rch_zero (b : Bt) (i : Int) (n wt : Nat) : mbc (rchTo b i n wt 0) = mbc noMb := rfl
theorem rch_full (b : Bt) (i : Int) (n wt : Nat) : mbc (rchTo b i n wt 8) = mbc (rchB b i n wt) := rfl
theorem rch_set (b : Bt) (i : Int) (n wt j v : Nat) (hj : j < 8) (h : rchB b i n wt j = v) : (mbc (rchTo b i n wt j)).setIfInBounds j (.int .u32 (v : Int)) = mbc (rchTo b i n wt (j + 1)) := by
 rw [mbc_set _ j _ hj]
 apply mbc_ext
 intro k hk
 unfold rchTo
 by_cases e : k = j
 ·subst e; simp [h]
 ·by_cases l : k < j
  ·simp [e, l, show k < j + 1 by omega]
  ·simp [e, l, show ¬ k < j + 1 by omega]
theorem rch_skip (b : Bt) (i : Int) (n wt j : Nat) (h : rchB b i n wt j = 0) : mbc (rchTo b i n wt j) = mbc (rchTo b i n wt (j + 1)) := by
 apply mbc_ext
 intro k hk
 unfold rchTo
 by_cases e : k = j
 ·subst e; simp [h]
 ·by_cases l : k < j
  ·simp [l, show k < j + 1 by omega]
  ·simp [l, show ¬ k < j + 1 by omega]
set_option maxHeartbeats 1000000 in
theorem lately_ok (now h wt : Nat) (hn : now < 4294967296) (w : World) : Calls Tryz.prog 159 #[.int .u32 (now : Int), .int .u32 (h : Int), .int .u32 (wt : Int)] w fun e w' => e = .returned (.bool (lateB now h wt)) ∧ Below w.heap.size w w' := by
 have hB : Below w.heap.size w w := Below.refl _ _
 obtain ⟨L, hL⟩ : ∃ L, Hid (lateB now h wt = L) := ⟨_, rfl⟩
 rw [hL.out]
 by_cases h0 : h = 0
 ·subst h0
  obtain rfl : L = false := by rw [← hL.out]; simp [lateB]
  clear hL hn
  go_enter Tryz.func159, Tryz.ntmps159
  go_wp2_with fail
  go_ret
  exact ⟨rfl, hB⟩
 ·have h0' : ((h : Int) != 0) = true := by rw [bne_iff_ne]; omega
  by_cases h1 : h ≤ now
  ·have h1' : decide ((h : Int) ≤ (now : Int)) = true := by simp; omega
   have hw : IntKind.u32.wrap ((now : Int) - (h : Int)) = (now : Int) - (h : Int) := by rw [IntKind.wrap_u32]; omega
   by_cases h2 : now - h ≤ wt
   ·have h2' : decide ((now : Int) - (h : Int) ≤ (wt : Int)) = true := by simp; omega
    obtain rfl : L = true := by rw [← hL.out]; simp [lateB, h0, h1, h2]
    clear hL hn h0 h2
    go_enter Tryz.func159, Tryz.ntmps159
    go_wp2_with fail
    go_ret
    exact ⟨rfl, hB⟩
   ·have h2' : decide ((now : Int) - (h : Int) ≤ (wt : Int)) = false := by simp; omega
    obtain rfl : L = false := by rw [← hL.out]; simp [lateB, h2]
    clear hL hn h0 h2
    go_enter Tryz.func159, Tryz.ntmps159
    go_wp2_with fail
    go_ret
    exact ⟨rfl, hB⟩
  ·have h1' : decide ((h : Int) ≤ (now : Int)) = false := by simp; omega
   obtain rfl : L = false := by rw [← hL.out]; simp [lateB, h1]
   clear hL hn h0
   go_enter Tryz.func159, Tryz.ntmps159
   go_wp2_with fail
   go_ret
   exact ⟨rfl, hB⟩
set_option maxHeartbeats 2000000 in
theorem reach_ok (b : Bt) (i : Int) (n wt : Nat) (hn : b.now < 4294967296) (w : World) : Calls Tryz.prog 126 #[.agg b.arr, .int .i64 i, .int .u32 (n : Int), .int .u32 (wt : Int)] w fun e w' => e = .returned (.agg (mbc (rchB b i n wt))) ∧ Below w.heap.size w w' := by
 obtain ⟨a0, a1, a2, hB⟩ := three_blk (T0 := 72) (T1 := 55) (T2 := 55) (C0 := b.arr) (C1 := mbc noMb) (C2 := mbc noMb) (w := w) rfl
 rw [← rch_zero b i n wt] at a2
 have HN : Hid (b.now < 4294967296) := hn
 clear hn
 go_enter Tryz.func126, Tryz.ntmps126
 go_wp2_with (refine alloc_zero zeroMb rfl rfl ?_)
 go_loopw [11] (fun iv wr => ∃ j : Nat, j ≤ 8 ∧ iv = .int .i64 j ∧ Blk w.heap.size b.arr 72 wr ∧ Blk (w.heap.size + 1) (mbc noMb) 55 wr ∧ Blk (w.heap.size + 1 + 1) (mbc (rchTo b i n wt j)) 55 wr ∧ Below w.heap.size w wr) (fun iv _ => 8 - (intOf iv).toNat)
 case atStart => exact ⟨0, by omega, rfl, a0, a1, a2, hB⟩
 case round =>
  clear a0 a1 a2 hB
  obtain ⟨j, hj, rfl, a0, a1, a2, hB⟩ := hrel
  by_cases hj8 : j < 8
  ·have j0 : (j : Int) < 8 := by omega
   have j1 : (0 : Int) ≤ (j : Int) := by omega
   by_cases hji : (j : Int) = i
   ·have hb : ((j : Int) == i) = true := by simpa using hji
    have hst := rch_set b i n wt j n hj8 (by simp [rchB, hji])
    clear hji
    go_wp2_with (refine store_one rfl 37 _ _ rfl (off := j) (.int .u32 (n : Int)) a2 rfl rfl rfl rfl sizeU32 (by rw [mbc_size]; omega) ?_; intro w5 b5 k5; rw [hst] at b5; have d0 := a0.kp1 k5 (by omega); have d1 := a1.kp1 k5 (by omega); have hD : Below w.heap.size w w5 := hB.trans (k5.below1 (by omega) hB.size))
    exact ⟨⟨j + 1, by omega, by go_num, d0, d1, b5, hD⟩, by simp [intOf]; omega⟩
   ·have hb : ((j : Int) == i) = false := by simpa using hji
    have hr : rchB b i n wt j = if lateB b.now (b.hd j) wt = true then b.inc j else 0 := by simp [rchB, hji]
    clear hji
    cases hl : lateB b.now (b.hd j) wt with
    | true =>
     rw [hl, if_pos rfl] at hr
     have hst := rch_set b i n wt j _ hj8 hr
     have p0 : ∀ d os, Calls Tryz.prog 159 #[.int .u32 (b.now : Int), .int .u32 (b.hd j : Int), .int .u32 (wt : Int)] (grow (redrawn wr d) os) fun e w'' => e = .returned (.bool true) ∧ ∃ p : Regrown, w'' = grow (redrawn wr p.d) p.os := fun d os => Calls.regrown_of (by rw [← hl]; exact lately_ok b.now (b.hd j) wt HN.out _)
     have q0 : ∀ d os, (grow (redrawn wr d) os).cell? ⟨w.heap.size, 0, none⟩ = some (.int .u32 (b.now : Int)) := cell_regrown (a0.cell 0 _ b.get_now)
     have q1 : ∀ d os, (grow (redrawn wr d) os).cell? ⟨w.heap.size, 1 + j, none⟩ = some (.int .u32 (b.hd j : Int)) := cell_regrown (a0.cell (1 + j) _ (b.get_hd j hj8))
     clear hl
     go_wp2_with fail
     refine wp_region_quiet_below (by kernel_rfl) (by kernel_rfl) ?_
     repeat (go_big_quiet_step (with_reducible exact p0 _ _))
     refine wpQuiet_nil ?_
     intro _ hw'
     obtain ⟨⟨dq, osq⟩, hw''⟩ := hw'
     have hbb := below_regrown wr dq osq
     subst hw''
     generalize grow (redrawn wr dq) osq = w4 at hbb ⊢
     have a0 := a0.below hbb
     have a1 := a1.below hbb
     have a2 := a2.below hbb
     have hB := hB.trans (hbb.mono hB.size)
     clear hbb p0 q0 q1
     have c1 := a0.cell (9 + j) _ (b.get_inc j hj8)
     go_wp2_with (refine store_one rfl 37 _ _ rfl (off := j) (.int .u32 (b.inc j : Int)) a2 rfl rfl rfl rfl sizeU32 (by rw [mbc_size]; omega) ?_; intro w5 b5 k5; rw [hst] at b5; have d0 := a0.kp1 k5 (by omega); have d1 := a1.kp1 k5 (by omega); have hD : Below w.heap.size w w5 := hB.trans (k5.below1 (by omega) hB.size))
     exact ⟨⟨j + 1, by omega, by go_num, d0, d1, b5, hD⟩, by simp [intOf]; omega⟩
    | false =>
     rw [hl, if_neg (by decide)] at hr
     rw [rch_skip b i n wt j hr] at a2
     have p0 : ∀ d os, Calls Tryz.prog 159 #[.int .u32 (b.now : Int), .int .u32 (b.hd j : Int), .int .u32 (wt : Int)] (grow (redrawn wr d) os) fun e w'' => e = .returned (.bool false) ∧ ∃ p : Regrown, w'' = grow (redrawn wr p.d) p.os := fun d os => Calls.regrown_of (by rw [← hl]; exact lately_ok b.now (b.hd j) wt HN.out _)
     have q0 : ∀ d os, (grow (redrawn wr d) os).cell? ⟨w.heap.size, 0, none⟩ = some (.int .u32 (b.now : Int)) := cell_regrown (a0.cell 0 _ b.get_now)
     have q1 : ∀ d os, (grow (redrawn wr d) os).cell? ⟨w.heap.size, 1 + j, none⟩ = some (.int .u32 (b.hd j : Int)) := cell_regrown (a0.cell (1 + j) _ (b.get_hd j hj8))
     clear hl
     go_wp2_with fail
     refine wp_region_quiet_below (by kernel_rfl) (by kernel_rfl) ?_
     repeat (go_big_quiet_step (with_reducible exact p0 _ _))
     refine wpQuiet_nil ?_
     intro _ hw'
     obtain ⟨⟨dq, osq⟩, hw''⟩ := hw'
     have hbb := below_regrown wr dq osq
     subst hw''
     generalize grow (redrawn wr dq) osq = w4 at hbb ⊢
     have a0 := a0.below hbb
     have a1 := a1.below hbb
     have a2 := a2.below hbb
     have hB := hB.trans (hbb.mono hB.size)
     clear hbb p0 q0 q1
     go_wp2_with fail
     exact ⟨⟨j + 1, by omega, by go_num, a0, a1, a2, hB⟩, by simp [intOf]; omega⟩
  ·obtain rfl : j = 8 := by omega
   rw [rch_full] at a2
   have hpa : putAt (mbc noMb) 0 (mbc (rchB b i n wt)).toList = mbc (rchB b i n wt) := putAt_all _ _ rfl
   obtain ⟨C, hC⟩ : ∃ C, Hid (mbc (rchB b i n wt) = C) := ⟨_, rfl⟩
   go_wp2_with (first | refine load_blk rfl 55 _ rfl a2 rfl Tryz.underlying55 rfl sizeMb ?_ | (refine store_part rfl 55 _ _ rfl (off := 0) (cells := mbc (rchB b i n wt)) a1 rfl rfl sizeMb (by simp [mbc_size]) (mbc_one _) ?_; intro w2 b2 k2; rw [hpa] at b2; have hB2 : Below w.heap.size w w2 := hB.trans (k2.below1 (by omega) hB.size)))
   refine bodyPost_ret (w := w2) (v := .agg (mbc (rchB b i n wt))) (ret_one rfl rfl b2 Tryz.underlying55 rfl sizeMb) rfl ⟨rfl, hB2⟩
end Go.Proofs.YthgfpdidilolgaaGreat
namespace Go.Proofs.YthgfpdidilolgaaGreat
set_option maxRecDepth 10000
open Go.RowKit Go.Sort
structure Hp where
 view : Bool
 k : Kt
 conf : Idn
 mem : Nat → Nat
structure Sg where
 c : Co
 L : List Kt
 t : List Hp
def Co.kp (c : Co) (a : Option Addr) (n k : Nat) : Co := ⟨c.self, c.wait, c.own, c.beat, c.conf, c.mem, c.count, a, n, k, c.pr, c.want, c.cut, c.rdy, c.peers, c.epoch⟩
def Co.wBeat (c : Co) (x : Bt) : Co := ⟨c.self, c.wait, c.own, x, c.conf, c.mem, c.count, c.ka, c.kn, c.kc, c.pr, c.want, c.cut, c.rdy, c.peers, c.epoch⟩
def Co.wCount (c : Co) (x : Nat → Nat) : Co := ⟨c.self, c.wait, c.own, c.beat, c.conf, c.mem, x, c.ka, c.kn, c.kc, c.pr, c.want, c.cut, c.rdy, c.peers, c.epoch⟩
def Co.wRdy (c : Co) (x : Bool) : Co := ⟨c.self, c.wait, c.own, c.beat, c.conf, c.mem, c.count, c.ka, c.kn, c.kc, c.pr, c.want, c.cut, x, c.peers, c.epoch⟩
def Co.wEpoch (c : Co) (x : Nat) : Co := ⟨c.self, c.wait, c.own, c.beat, c.conf, c.mem, c.count, c.ka, c.kn, c.kc, c.pr, c.want, c.cut, c.rdy, c.peers, x⟩
def Co.wPeer (c : Co) (i : Nat) (x : Pe) : Co := ⟨c.self, c.wait, c.own, c.beat, c.conf, c.mem, c.count, c.ka, c.kn, c.kc, c.pr, c.want, c.cut, c.rdy, putP c.peers i x, c.epoch⟩
def promC (c : Co) (x : Idn) (m : Nat → Nat) : Co := ⟨c.self, c.wait, c.own, c.beat, c.conf, c.mem, c.count, c.ka, c.kn, c.kc, x, m, c.count, false, c.peers, c.epoch⟩
def instC (c : Co) : Co := ⟨c.self, c.wait, c.own, c.beat, c.pr, c.want, noMb, c.ka, c.kn, c.kc, c.pr, c.want, noMb, false, c.peers, c.epoch⟩
def gathB (c : Co) : Bool := !Idn.same c.pr c.conf
def ownN (c : Co) : Nat := c.count c.self.toNat
def rdyB (c : Co) : Bool := gathB c && !c.rdy && allB c && withB (targC c) c.count
def readyC (c : Co) : Co := if rdyB c = true then c.wRdy true else c
def insB (c : Co) : Bool := gathB c && c.rdy && doneB c
def viewH (c : Co) : Hp := ⟨true, Kt.zero, c.pr, c.want⟩
def takeH (x : Kt) : Hp := ⟨false, x, Idn.zero, noMb⟩
def instS (s : Sg) : Sg := ⟨instC s.c, [], s.t ++ [viewH s.c]⟩
def goOnS (s : Sg) : Sg := if insB (readyC s.c) = true then instS ⟨readyC s.c, s.L, s.t⟩ else ⟨readyC s.c, s.L, s.t⟩
def outB (c : Co) (m : Nat → Nat) : Bool := (oth m c.self).any (aboveB c m)
def unsB (c : Co) (m : Nat → Nat) : Bool := gathB c || !mbSame m c.mem || outB c m
def waitN (c : Co) : Nat := (c.wait % 4294967296).toNat
def reachC (c : Co) : Nat → Nat := rchB c.beat c.self c.own (waitN c)
def proposeC (c : Co) (m : Nat → Nat) : Co := if (unsB c m && proB c m) = true then promC (c.wEpoch (propI c m).e) (propI c m) m else c
def sendB (c : Co) : Bool := !gathB c && mayB c.count c.mem c.self && !decide (ownN c = 4294967295)
def nextK (c : Co) (f : Nat → En) : Kt := ⟨c.self, (ownN c + 1) % 4294967296, f, Nat.mod_lt _ (by decide)⟩
def sentS (s : Sg) (f : Nat → En) : Sg := ⟨s.c.wCount (takeC s.c.count (nextK s.c f)), takeL s.L (nextK s.c f), s.t ++ [takeH (nextK s.c f)]⟩
def sendS (s : Sg) (f : Nat → En) : Sg := if sendB s.c = true then sentS s f else s
def tick0 (c : Co) : Co := proposeC (c.wBeat (tickB c.beat)) (reachC (c.wBeat (tickB c.beat)))
def tick1 (c : Co) (L : List Kt) : Sg := goOnS ⟨tick0 c, L, []⟩
def tickS (c : Co) (L : List Kt) (f : Nat → En) : Sg := sendS (tick1 c L) f
def tickD (c : Co) (L : List Kt) : Bool := sendB (tick1 c L).c
def heedB (c : Co) (p : Pk) : Bool := !decide ((p.n 0 : Int) = c.self) && hearsB c.beat (p.n 0 : Int) (p.n 1)
def hearC (c : Co) (p : Pk) : Co := ((c.wBeat (hearB c.beat (p.n 0 : Int) (p.n 1))).wPeer (p.n 0) (updP (c.peers (p.n 0)) (told p))).wEpoch (max c.epoch (max (p.n 33) (p.n 21)))
def adopC (c : Co) (p : Pk) : Co := if adoptB c.pr c.self c.own p = true then promC c p.pr p.want else c
def mostB (c : Co) : Bool := !gathB c || (!c.rdy && allB c)
def mostC (c : Co) : Nat → Nat := if gathB c = true then targC c else fun _ => ownN c
def offered (s : Sg) (p : Pk) : Os := offO s.c.mem (mostC s.c) p ⟨s.L, s.c.count, []⟩
def offedS (s : Sg) (p : Pk) : Sg := ⟨s.c.wCount (offered s p).c, (offered s p).L, s.t ++ (offered s p).t.map takeH⟩
def offS (s : Sg) (p : Pk) : Sg := if (mostB s.c && Idn.same p.conf s.c.conf) = true then offedS s p else s
def recv0 (c : Co) (p : Pk) : Co := adopC (hearC c p) p
def recvY (c : Co) (L : List Kt) (p : Pk) : Sg := goOnS (offS ⟨recv0 c p, L, []⟩ p)
def recvS (c : Co) (L : List Kt) (p : Pk) : Sg := if heedB c p = true then recvY c L p else ⟨c, L, []⟩
def startB (s : Int) (n : Nat) (wt : Int) : Bool := decide (0 ≤ s ∧ s ≤ 7 ∧ n ≠ 0 ∧ 1 ≤ wt ∧ wt ≤ 1000)
def startC (s : Int) (n : Nat) (wt : Int) : Co :=
 if startB s n wt = true then ⟨s, wt, n, Bt.zero, ⟨0, s.toNat, n⟩, put8 noMb s.toNat n, noMb, none, 0, 0, ⟨0, s.toNat, n⟩, put8 noMb s.toNat n, noMb, false, noPe, 0⟩ else Co.zero
end Go.Proofs.YthgfpdidilolgaaGreat
namespace Go.Proofs.YthgfpdidilolgaaGreat
set_option maxRecDepth 10000
open Go.RowKit Go.Sort
set_option linter.unusedVariables false
def Hp.vals (x : Hp) : List Value := .bool x.view :: (x.k.vals ++ (x.conf.vals ++ row8 x.mem))
def Hp.arr (x : Hp) : Array Value := x.vals.toArray
def Hp.zero : Hp := ⟨false, Kt.zero, Idn.zero, noMb⟩
theorem Hp.vals_length (x : Hp) : x.vals.length = 50 := rfl
theorem Hp.arr_one (x : Hp) : x.arr.all (·.oneCell') = true := by kernel_rfl
theorem Hp.vals_one (x : Hp) : ∀ v ∈ x.vals, v.oneCell' = true := by
 have h := x.arr_one
 rw [Hp.arr, Array.all_eq_true'] at h
 intro v hv
 exact h v (by simpa using hv)
theorem sizeHp : (Tryz.prog.info? 57).map (·.size) = some 50 := by kernel_rfl
theorem zeroHp : (Tryz.prog.info? 57).map (fun i => (i.zero, i.size)) = some (some (.agg Hp.zero.arr), 50) := by kernel_rfl
theorem infoHp : ∃ i z, Tryz.prog.info? 57 = some i ∧ i.zero = some z ∧ i.size = 50 ∧ i.bytes = 408 ∧ z.cells.size = 50 := by
 have h : (Tryz.prog.info? 57).map (fun i => (i.zero, i.size, i.bytes)) = some (some (.agg Hp.zero.arr), 50, 408) := by kernel_rfl
 obtain ⟨i, hi, h0, h1, h2⟩ := info_parts h
 exact ⟨i, _, hi, h0, h1, h2, rfl⟩
theorem Hp.get_view (x : Hp) : x.arr[0]? = some (.bool x.view) := rfl
theorem Hp.p_conf (x : Hp) : (x.arr.extract 39 (39 + x.conf.vals.length)).toList = x.conf.vals := by kernel_rfl
theorem bsHp (x : Hp) (w : World) : (Instr.buildSlice 109 1 #[(0, .agg x.arr)]).run Tryz.prog w = .ok (.slice (some ⟨w.heap.size, 0, none⟩) 1 1) (w.alloc (.cells x.arr 57)) := by kernel_rfl
theorem wp_hp {o : Oper} {a : Act} {w : World} {K : Act → World → Prop} {Q : Exit → Act → World → Prop} (y : Operand) (ho : o.op = .buildSlice 109 1 #[(0, y)]) (x : Hp) (hx : a.eval y = .agg x.arr)
  (h : ∀ p W, Blk p x.arr 57 W → Below w.heap.size w W → w.heap.size ≤ p → K (a.put o.dst (.slice (some ⟨p, 0, none⟩) 1 1)) W) : o.wp Tryz.prog a w K Q := by
 have hk := h _ _ (blk_new w x.arr 57) (below_box w _) (Nat.le_refl _)
 unfold Oper.wp execOp
 simp only [ho, List.map_toArray, List.map_cons, List.map_nil, hx, Sem.run_bind, Sem.run_pure, bsHp, Result.andThen_ok]
 exact hk
def unc (c : Co) (v : Value) : Array Value := (col c ++ [v]).toArray
theorem col_len (c : Co) : (col c).length = 189 := rfl
theorem unc_size (c : Co) (v : Value) : (unc c v).size = 190 := rfl
theorem unc_one (c : Co) (a : Option Addr) (n k : Nat) : (unc c (.slice a n k)).all (·.oneCell') = true := by kernel_rfl
theorem unc_get (c : Co) (v : Value) (i : Nat) (h : i < 189) : (unc c v)[i]? = (coc c)[i]? := by
 show (col c ++ [v]).toArray[i]? = (col c).toArray[i]?
 rw [List.getElem?_toArray, List.getElem?_toArray, List.getElem?_append_left (by rw [col_len]; exact h)]
theorem unc_part (c : Co) (v : Value) (o : Nat) (cs : List Value) (h : ((coc c).extract o (o + cs.length)).toList = cs) (hl : o + cs.length ≤ 189) : ((unc c v).extract o (o + cs.length)).toList = cs := by
 conv => rhs; rw [← h]
 show ((col c ++ [v]).toArray.extract o (o + cs.length)).toList = ((col c).toArray.extract o (o + cs.length)).toList
 apply List.ext_getElem?
 intro j
 simp only [Array.toList_extract, List.extract_eq_take_drop, List.getElem?_take, List.getElem?_drop]
 by_cases hj : j < o + cs.length - o
 ·rw [if_pos hj, if_pos hj, List.getElem?_append_left (by rw [col_len]; omega)]
 ·rw [if_neg hj, if_neg hj]
theorem unc_core (c : Co) (v : Value) : ((unc c v).extract 0 (0 + (col c).length)).toList = col c := by kernel_rfl
theorem un_beat (c : Co) (v : Value) : ((unc c v).extract 3 (3 + c.beat.vals.length)).toList = c.beat.vals := unc_part c v 3 c.beat.vals c.p_beat (show 3 + 17 ≤ 189 by decide)
theorem un_conf (c : Co) (v : Value) : ((unc c v).extract 20 (20 + c.conf.vals.length)).toList = c.conf.vals := unc_part c v 20 c.conf.vals c.p_conf (show 20 + 3 ≤ 189 by decide)
theorem un_mem (c : Co) (v : Value) : ((unc c v).extract 23 (23 + (row8 c.mem).length)).toList = (row8 c.mem) := unc_part c v 23 (row8 c.mem) c.p_mem (show 23 + 8 ≤ 189 by decide)
theorem un_count (c : Co) (v : Value) : ((unc c v).extract 31 (31 + (row8 c.count).length)).toList = (row8 c.count) := unc_part c v 31 (row8 c.count) c.p_count (show 31 + 8 ≤ 189 by decide)
theorem un_pr (c : Co) (v : Value) : ((unc c v).extract 40 (40 + c.pr.vals.length)).toList = c.pr.vals := unc_part c v 40 c.pr.vals c.p_pr (show 40 + 3 ≤ 189 by decide)
theorem un_want (c : Co) (v : Value) : ((unc c v).extract 43 (43 + (row8 c.want).length)).toList = (row8 c.want) := unc_part c v 43 (row8 c.want) c.p_want (show 43 + 8 ≤ 189 by decide)
theorem un_peer (c : Co) (v : Value) (i : Nat) (h : i < 8) : ((unc c v).extract (60 + i * 16) (60 + i * 16 + (c.peers i).vals.length)).toList = (c.peers i).vals := unc_part c v (60 + i * 16) (c.peers i).vals (c.p_peer i h) (show 60 + i * 16 + 16 ≤ 189 by omega)
theorem unc_put (c c' : Co) (v : Value) (o : Nat) (cs : List Value) (h : putAt (coc c) o cs = coc c') (hl : o + cs.length ≤ 189) : putAt (unc c v) o cs = unc c' v := by
 apply Array.ext_getElem?
 intro j
 have hz : (coc c).size = 189 := rfl
 rw [putAt_get cs o (unc c v) j (by rw [unc_size]; omega)]
 have hj2 := congrArg (fun a : Array Value => a[j]?) h
 rw [putAt_get cs o (coc c) j (by omega)] at hj2
 by_cases hr : o ≤ j ∧ j < o + cs.length
 ·rw [if_pos hr] at hj2 ⊢
  rw [hj2, unc_get c' v j (by omega)]
 ·rw [if_neg hr] at hj2 ⊢
  by_cases h9 : j < 189
  ·rw [unc_get c v j h9, unc_get c' v j h9, hj2]
  ·by_cases h8 : j = 189
   ·subst h8; rfl
   ·rw [Array.getElem?_eq_none (by rw [unc_size]; omega), Array.getElem?_eq_none (by rw [unc_size]; omega)]
theorem unc_set (c c' : Co) (v : Value) (o : Nat) (x : Value) (h : (coc c).setIfInBounds o x = coc c') (hl : o < 189) : (unc c v).setIfInBounds o x = unc c' v := unc_put c c' v o [x] h (by simp; omega)
theorem unc_told (c : Co) (v x : Value) : (unc c v).setIfInBounds 189 x = unc c x := by kernel_rfl
theorem unc_all (c c' : Co) (v v' : Value) : putAt (unc c v) 0 (unc c' v').toList = unc c' v' := putAt_all _ _ rfl
theorem sizeUn : (Tryz.prog.info? 166).map (·.size) = some 190 := by kernel_rfl
theorem zeroUn : (Tryz.prog.info? 166).map (fun i => (i.zero, i.size)) = some (some (.agg (unc Co.zero (.slice none 0 0))), 190) := by kernel_rfl
theorem sizeHs : (Tryz.prog.info? 109).map (·.size) = some 1 := by kernel_rfl
def Off {α : Type} (a : Option Addr) (L : List α) (P : Nat) : Prop := L = [] ∨ P ∉ blkOf a
theorem Off.nil {α : Type} (a : Option Addr) (P : Nat) : Off a ([] : List α) P := .inl rfl
theorem Off.lg {α : Type} {f : α → List Value} {k : Nat} {T : TypeId} {B : Nat} {a : Option Addr} {cap : Nat} {L : List α} {w : World} (h : Lg f k T B a cap L w) (P : Nat) (hP : P < B ∨ w.heap.size ≤ P) : Off a L P := by
 refine .inr fun hm => ?_
 have := h.in P hm
 omega
theorem Off.li {α : Type} {f : α → List Value} {B : Nat} {a : Option Addr} {L : List α} {w : World} (h : Li f B a L w) (P : Nat) (hP : P < B ∨ w.heap.size ≤ P) : Off a L P := by
 rcases h with h | ⟨b, o, rfl, hB, hlt, _⟩
 ·exact .inl h
 ·refine .inr fun hm => ?_
  simp [blkOf] at hm
  omega
theorem Li.off {α : Type} {f : α → List Value} {B : Nat} {a : Option Addr} {L : List α} {S : List Nat} {w w' : World} (h : Li f B a L w) (hk : Kp S w w') (ho : ∀ P ∈ S, Off a L P) : Li f B a L w' := by
 rcases h with h | ⟨b, o, rfl, hB, hlt, hr⟩
 ·exact .inl h
 ·by_cases hL : L = []
  ·exact .inl hL
  ·refine .inr ⟨b, o, rfl, hB, Nat.lt_of_lt_of_le hlt hk.size, range_block hr (hk.block b hlt fun hm => ?_)⟩
   rcases ho b hm with h | h
   ·exact hL h
   ·exact h (by simp [blkOf])
theorem Off.other {α : Type} {a b : Option Addr} {L : List α} {n : Nat} {f : α → List Value} {B : Nat} {w : World} (h : ∀ g ∈ blkOf b, Off a L g) (hl : Li f B a L w) (hn : w.heap.size ≤ n) {b' : Option Addr} (hb : ∀ A ∈ blkOf b', A ∈ blkOf b ∨ n ≤ A) : ∀ g ∈ blkOf b', Off a L g := by
 intro g hg
 rcases hb g hg with h' | h'
 ·exact h g h'
 ·exact Off.li hl g (.inr (by omega))
end Go.Proofs.YthgfpdidilolgaaGreat
namespace Go.Proofs.YthgfpdidilolgaaGreat
set_option maxRecDepth 10000
open Go.RowKit Go.Sort
def Uv (T : TypeId) (B P : Nat) (s : Sg) (w : World) : Prop :=
 ∃ a k ta tk, Blk P (unc (s.c.kp a s.L.length k) (.slice ta s.t.length tk)) T w ∧ Li Kt.vals B a s.L w ∧ Lg Hp.vals 50 57 (P + 1) ta tk s.t w ∧ Off a s.L P ∧ ∀ g ∈ blkOf ta, Off a s.L g
theorem Uv.lt {T : TypeId} {B P : Nat} {s : Sg} {w : World} (h : Uv T B P s w) : P < w.heap.size := by
 obtain ⟨_, _, _, _, h, _⟩ := h
 exact h.lt
theorem Uv.below {T : TypeId} {B P : Nat} {s : Sg} {w w' : World} (h : Uv T B P s w) (hb : Below w.heap.size w w') : Uv T B P s w' := by
 obtain ⟨a, k, ta, tk, h1, h2, h3, h4, h5⟩ := h
 exact ⟨a, k, ta, tk, h1.below hb, h2.below hb, h3.below hb, h4, h5⟩
theorem kp_self (c : Co) (n : Nat) (h : c.kn = n) : c.kp c.ka n c.kc = c := by subst h; rfl
def Sg.sim (s u : Sg) : Prop := (∀ a n k, s.c.kp a n k = u.c.kp a n k) ∧ s.L = u.L ∧ s.t = u.t
theorem Uv.sim {T : TypeId} {B P : Nat} {s u : Sg} {w : World} (h : Uv T B P s w) (hs : Sg.sim s u) : Uv T B P u w := by
 obtain ⟨a, k, ta, tk, h1, h2, h3, h4, h5⟩ := h
 obtain ⟨e1, e2, e3⟩ := hs
 rw [e1, e2, e3] at h1
 rw [e2] at h2 h4 h5
 rw [e3] at h3
 exact ⟨a, k, ta, tk, h1, h2, h3, h4, h5⟩
theorem Uv.open {T : TypeId} {B P : Nat} {s : Sg} {w : World} (h : Uv T B P s w) : ∃ c ta tk, c.kn = s.L.length ∧ (∀ a n k, c.kp a n k = s.c.kp a n k) ∧ Blk P (unc c (.slice ta s.t.length tk)) T w ∧ Li Kt.vals B c.ka s.L w ∧ Lg Hp.vals 50 57 (P + 1) ta tk s.t w ∧ Off c.ka s.L P ∧ ∀ g ∈ blkOf ta, Off c.ka s.L g := by
 obtain ⟨a, k, ta, tk, h1, h2, h3, h4, h5⟩ := h
 exact ⟨s.c.kp a s.L.length k, ta, tk, rfl, fun _ _ _ => rfl, h1, h2, h3, h4, h5⟩
theorem eq_kp {c d : Co} (h : ∀ a n k, c.kp a n k = d.kp a n k) : ∃ a n k, c = d.kp a n k := ⟨c.ka, c.kn, c.kc, (kp_self c c.kn rfl).symm.trans (h _ _ _)⟩
theorem readyC_kp (c : Co) (a : Option Addr) (n k : Nat) : readyC (c.kp a n k) = (readyC c).kp a n k := by
 unfold readyC
 have e : rdyB (c.kp a n k) = rdyB c := rfl
 rw [e]
 cases rdyB c <;> rfl
theorem goOn_sim {c d : Co} (h : ∀ a n k, c.kp a n k = d.kp a n k) (L : List Kt) (t : List Hp) : Sg.sim (goOnS ⟨c, L, t⟩) (goOnS ⟨d, L, t⟩) := by
 obtain ⟨a, n, k, rfl⟩ := eq_kp h
 unfold goOnS
 show Sg.sim (if insB (readyC (d.kp a n k)) = true then instS ⟨readyC (d.kp a n k), L, t⟩ else ⟨readyC (d.kp a n k), L, t⟩) _
 rw [readyC_kp]
 have e : insB ((readyC d).kp a n k) = insB (readyC d) := rfl
 rw [e]
 show Sg.sim _ (if insB (readyC d) = true then instS ⟨readyC d, L, t⟩ else ⟨readyC d, L, t⟩)
 cases insB (readyC d)
 ·exact ⟨fun _ _ _ => rfl, rfl, rfl⟩
 ·exact ⟨fun _ _ _ => rfl, rfl, rfl⟩
theorem send_sim {c d : Co} (h : ∀ a n k, c.kp a n k = d.kp a n k) (L : List Kt) (t : List Hp) (f : Nat → En) : Sg.sim (sendS ⟨c, L, t⟩ f) (sendS ⟨d, L, t⟩ f) ∧ sendB c = sendB d := by
 obtain ⟨a, n, k, rfl⟩ := eq_kp h
 have e : sendB (d.kp a n k) = sendB d := rfl
 refine ⟨?_, e⟩
 unfold sendS
 show Sg.sim (if sendB (d.kp a n k) = true then sentS ⟨d.kp a n k, L, t⟩ f else ⟨d.kp a n k, L, t⟩) (if sendB d = true then sentS ⟨d, L, t⟩ f else ⟨d, L, t⟩)
 rw [e]
 cases sendB d
 ·exact ⟨fun _ _ _ => rfl, rfl, rfl⟩
 ·exact ⟨fun _ _ _ => rfl, rfl, rfl⟩
theorem off_sim {c d : Co} (h : ∀ a n k, c.kp a n k = d.kp a n k) (L : List Kt) (t : List Hp) (p : Pk) : Sg.sim (offS ⟨c, L, t⟩ p) (offS ⟨d, L, t⟩ p) := by
 obtain ⟨a, n, k, rfl⟩ := eq_kp h
 have e : (mostB (d.kp a n k) && Idn.same p.conf (d.kp a n k).conf) = (mostB d && Idn.same p.conf d.conf) := rfl
 unfold offS
 show Sg.sim (if (mostB (d.kp a n k) && Idn.same p.conf (d.kp a n k).conf) = true then offedS ⟨d.kp a n k, L, t⟩ p else ⟨d.kp a n k, L, t⟩) (if (mostB d && Idn.same p.conf d.conf) = true then offedS ⟨d, L, t⟩ p else ⟨d, L, t⟩)
 rw [e]
 cases mostB d && Idn.same p.conf d.conf
 ·exact ⟨fun _ _ _ => rfl, rfl, rfl⟩
 ·exact ⟨fun _ _ _ => rfl, rfl, rfl⟩
theorem propose_kp (c : Co) (m : Nat → Nat) (a : Option Addr) (n k : Nat) : proposeC (c.kp a n k) m = (proposeC c m).kp a n k := by
 unfold proposeC
 have e : (unsB (c.kp a n k) m && proB (c.kp a n k) m) = (unsB c m && proB c m) := rfl
 have e2 : propI (c.kp a n k) m = propI c m := rfl
 rw [e, e2]
 cases unsB c m && proB c m <;> rfl
end Go.Proofs.YthgfpdidilolgaaGreat
