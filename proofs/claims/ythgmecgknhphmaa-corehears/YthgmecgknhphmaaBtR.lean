/-
  A clock one tick later, a daemon that is heard, and whom a clock reaches: what the document says.
  Clocks and waits are such as a uint32 holds.
-/
import Derived.Test.YthgmecgknhphmaaBtB
namespace Go.Proofs.Ythgmecgknhphmaa
set_option maxRecDepth 10000
open Go.RowKit Go.Sort

set_option maxHeartbeats 1000000 in
theorem rtick_ok (b : Bt) (hn : b.now < 4294967296) (w : World) : Calls Try.prog 33 #[.agg b.arr] w fun e w' => e = .returned (.agg (tickB b).arr) ∧ Below w.heap.size w w' := by
  obtain ⟨a1, a2, hB⟩ := two_blk (T0 := 25) (T1 := 25) (C0 := b.arr) (C1 := Bt.zero.arr) (w := w) rfl
  have hpa : putAt Bt.zero.arr 0 (tickB b).arr.toList = (tickB b).arr := putAt_all _ _ rfl
  obtain ⟨D, hD⟩ : ∃ D, tickB b = D := ⟨_, rfl⟩
  have HD : Hid (tickB b = D) := hD
  rw [hD] at hpa ⊢
  clear hD
  go_enter Try.func33, Try.ntmps33
  go_upto_region 1 with (refine alloc_zero zeroBt rfl rfl ?_)
  generalize (w.alloc (Obj.cells b.arr 25)).alloc (Obj.cells Bt.zero.arr 25) = W at a1 a2 hB ⊢
  have c0 := a1.cell 0 _ b.get_now
  by_cases h : b.now < 4294967295
  · have h1 : (((b.now : Int) + 1) != 0) = true := by rw [bne_iff_ne]; omega
    have h2 : IntKind.u32.wrap ((b.now : Int) + 1) = (b.now : Int) + 1 := by rw [IntKind.wrap_u32]; omega
    have hst : b.arr.setIfInBounds 0 (.int .u32 ((b.now : Int) + 1)) = D.arr := by
      rw [← HD.out, show tickB b = ⟨b.now + 1, b.hd, b.inc⟩ by simp [tickB, h], ← Bt.set_now]; rfl
    clear h HD hn
    go_wp2_with (first | (refine store_one rfl 22 _ _ rfl (off := 0) (.int .u32 ((b.now : Int) + 1)) a1 rfl rfl rfl rfl sizeU32 (by rw [Bt.arr_size]; omega) ?_; intro w2 b2 k2; rw [hst] at b2; have e2 := a2.kp1 k2 (by omega); have hB2 : Below w.heap.size w w2 := hB.trans (k2.below1 (by omega) hB.size)) | refine load_blk rfl 25 _ rfl b2 rfl Try.underlying25 rfl D.size ?_ | (refine store_part rfl 25 _ _ rfl (off := 0) (cells := D.arr) e2 rfl rfl D.size (by simp [Bt.arr_size]) D.arr_one ?_; intro w9 b9 k9; rw [hpa] at b9; have hB9 : Below w.heap.size w w9 := hB2.trans (k9.below1 (by omega) hB2.size)))
    refine bodyPost_ret (w := w9) (v := .agg D.arr) (ret_one rfl rfl b9 Try.underlying25 rfl D.size) rfl ⟨rfl, hB9⟩
  · have h2 : IntKind.u32.wrap ((b.now : Int) + 1) = 0 := by rw [IntKind.wrap_u32]; omega
    have hD : D = b := by rw [← HD.out]; simp [tickB, h]
    subst hD
    clear h HD hn
    go_wp2_with (first | refine load_blk rfl 25 _ rfl a1 rfl Try.underlying25 rfl D.size ?_ | (refine store_part rfl 25 _ _ rfl (off := 0) (cells := D.arr) a2 rfl rfl D.size (by simp [Bt.arr_size]) D.arr_one ?_; intro w9 b9 k9; rw [hpa] at b9; have hB9 : Below w.heap.size w w9 := hB.trans (k9.below1 (by omega) hB.size)))
    refine bodyPost_ret (w := w9) (v := .agg D.arr) (ret_one rfl rfl b9 Try.underlying25 rfl D.size) rfl ⟨rfl, hB9⟩

set_option maxHeartbeats 1000000 in
theorem rhear_ok (b : Bt) (i : Int) (n : Nat) (w : World) : Calls Try.prog 52 #[.agg b.arr, .int .i64 i, .int .u32 (n : Int)] w fun e w' => e = .returned (.tuple #[.agg (hearB b i n).arr, .bool (hearsB b i n)]) ∧ Below w.heap.size w w' := by
  obtain ⟨a1, a2, hB⟩ := two_blk (T0 := 25) (T1 := 25) (C0 := b.arr) (C1 := Bt.zero.arr) (w := w) rfl
  have hpa : putAt Bt.zero.arr 0 (hearB b i n).arr.toList = (hearB b i n).arr := putAt_all _ _ rfl
  obtain ⟨D, hD⟩ : ∃ D, hearB b i n = D := ⟨_, rfl⟩
  have HD : Hid (hearB b i n = D) := hD
  obtain ⟨O, hO⟩ : ∃ O, hearsB b i n = O := ⟨_, rfl⟩
  have HO : Hid (hearsB b i n = O) := hO
  rw [hD] at hpa ⊢
  rw [hO]
  clear hD hO
  go_enter Try.func52, Try.ntmps52
  go_upto_region 1 with (refine alloc_zero zeroBt rfl rfl ?_)
  generalize (w.alloc (Obj.cells b.arr 25)).alloc (Obj.cells Bt.zero.arr 25) = W at a1 a2 hB ⊢
  have c0 := a1.cell 0 _ b.get_now
  by_cases h0 : 0 ≤ i
  · by_cases h1 : i < 8
    · obtain ⟨k, rfl⟩ : ∃ k : Nat, i = (k : Int) := ⟨i.toNat, by omega⟩
      have c1 := a1.cell (9 + k) _ (b.get_inc k (by omega))
      have g0 : decide ((k : Int) < 0) = false := by simp
      have g1 : decide ((8 : Int) ≤ (k : Int)) = false := by simp; omega
      have g2 : decide ((7 : Int) < (k : Int)) = false := by simp; omega
      by_cases h2 : n = 0
      · subst h2
        obtain rfl : O = false := by rw [← HO.out]; simp [hearsB]
        have hD : D = b := by rw [← HD.out, hearB, HO.out]; rfl
        subst hD
        clear HD HO
        go_wp2_with (first | refine load_blk rfl 25 _ rfl a1 rfl Try.underlying25 rfl D.size ?_ | (refine store_part rfl 25 _ _ rfl (off := 0) (cells := D.arr) a2 rfl rfl D.size (by simp [Bt.arr_size]) D.arr_one ?_; intro w9 b9 k9; rw [hpa] at b9; have hB9 : Below w.heap.size w w9 := hB.trans (k9.below1 (by omega) hB.size)))
        refine bodyPost_ret (w := w9) (v := .tuple #[.agg D.arr, .bool false]) (ret_two rfl rfl b9 Try.underlying25 rfl D.size rfl) rfl ⟨rfl, hB9⟩
      · have h2' : ((n : Int) == 0) = false := by rw [beq_eq_false_iff_ne]; omega
        by_cases h3 : b.now = 0
        · have c0' := c0
          rw [h3] at c0'
          clear c0
          obtain rfl : O = false := by rw [← HO.out]; simp [hearsB, h3]
          have hD : D = b := by rw [← HD.out, hearB, HO.out]; rfl
          subst hD
          clear HD HO
          go_wp2_with (first | refine load_blk rfl 25 _ rfl a1 rfl Try.underlying25 rfl D.size ?_ | (refine store_part rfl 25 _ _ rfl (off := 0) (cells := D.arr) a2 rfl rfl D.size (by simp [Bt.arr_size]) D.arr_one ?_; intro w9 b9 k9; rw [hpa] at b9; have hB9 : Below w.heap.size w w9 := hB.trans (k9.below1 (by omega) hB.size)))
          refine bodyPost_ret (w := w9) (v := .tuple #[.agg D.arr, .bool false]) (ret_two rfl rfl b9 Try.underlying25 rfl D.size rfl) rfl ⟨rfl, hB9⟩
        · have h3' : ((b.now : Int) == 0) = false := by rw [beq_eq_false_iff_ne]; omega
          by_cases h4 : n < b.inc k
          · have h4' : (n : Int) < (b.inc k : Int) := by omega
            obtain rfl : O = false := by rw [← HO.out]; simp [hearsB]; omega
            have hD : D = b := by rw [← HD.out, hearB, HO.out]; rfl
            subst hD
            clear HD HO
            go_wp2_with (first | refine load_blk rfl 25 _ rfl a1 rfl Try.underlying25 rfl D.size ?_ | (refine store_part rfl 25 _ _ rfl (off := 0) (cells := D.arr) a2 rfl rfl D.size (by simp [Bt.arr_size]) D.arr_one ?_; intro w9 b9 k9; rw [hpa] at b9; have hB9 : Below w.heap.size w w9 := hB.trans (k9.below1 (by omega) hB.size)))
            refine bodyPost_ret (w := w9) (v := .tuple #[.agg D.arr, .bool false]) (ret_two rfl rfl b9 Try.underlying25 rfl D.size rfl) rfl ⟨rfl, hB9⟩
          · have h4' : ¬ (n : Int) < (b.inc k : Int) := by omega
            obtain rfl : O = true := by rw [← HO.out]; simp [hearsB, h2, h3]; omega
            have hD : ⟨b.now, put8 b.hd k b.now, put8 b.inc k n⟩ = D := by rw [← HD.out, hearB, HO.out]; rfl
            have s1 := b.set_hd k b.now (by omega)
            have s2 := (Bt.mk b.now (put8 b.hd k b.now) b.inc).set_inc k n (by omega)
            rw [show Bt.mk (Bt.mk b.now (put8 b.hd k b.now) b.inc).now (Bt.mk b.now (put8 b.hd k b.now) b.inc).hd (put8 (Bt.mk b.now (put8 b.hd k b.now) b.inc).inc k n) = D from hD] at s2
            obtain ⟨E, hE⟩ : ∃ E, Bt.mk b.now (put8 b.hd k b.now) b.inc = E := ⟨_, rfl⟩
            rw [hE] at s1 s2
            clear HD HO hD hE h2 h3 h4
            go_wp2_with (first | (refine store_one rfl 22 _ _ rfl (off := 1 + k) (.int .u32 (b.now : Int)) a1 rfl rfl rfl rfl sizeU32 (by rw [Bt.arr_size]; omega) ?_; intro w2 b2 k2; rw [s1] at b2; have e2 := a2.kp1 k2 (by omega); have hB2 : Below w.heap.size w w2 := hB.trans (k2.below1 (by omega) hB.size)) | (refine store_one rfl 22 _ _ rfl (off := 9 + k) (.int .u32 (n : Int)) b2 rfl rfl rfl rfl sizeU32 (by rw [Bt.arr_size]; omega) ?_; intro w3 b3 k3; rw [s2] at b3; have e3 := e2.kp1 k3 (by omega); have hB3 : Below w.heap.size w w3 := hB2.trans (k3.below1 (by omega) hB2.size)) | refine load_blk rfl 25 _ rfl b3 rfl Try.underlying25 rfl D.size ?_ | (refine store_part rfl 25 _ _ rfl (off := 0) (cells := D.arr) e3 rfl rfl D.size (by simp [Bt.arr_size]) D.arr_one ?_; intro w9 b9 k9; rw [hpa] at b9; have hB9 : Below w.heap.size w w9 := hB3.trans (k9.below1 (by omega) hB3.size)))
            refine bodyPost_ret (w := w9) (v := .tuple #[.agg D.arr, .bool true]) (ret_two rfl rfl b9 Try.underlying25 rfl D.size rfl) rfl ⟨rfl, hB9⟩
    · have h1' : decide ((8 : Int) ≤ i) = true := by simp; omega
      have h7' : decide ((7 : Int) < i) = true := by simp; omega
      have h0' : decide (i < 0) = false := by simp; omega
      obtain rfl : O = false := by rw [← HO.out]; simp [hearsB, h1]
      have hD : D = b := by rw [← HD.out, hearB, HO.out]; rfl
      subst hD
      clear HD HO
      go_wp2_with (first | refine load_blk rfl 25 _ rfl a1 rfl Try.underlying25 rfl D.size ?_ | (refine store_part rfl 25 _ _ rfl (off := 0) (cells := D.arr) a2 rfl rfl D.size (by simp [Bt.arr_size]) D.arr_one ?_; intro w9 b9 k9; rw [hpa] at b9; have hB9 : Below w.heap.size w w9 := hB.trans (k9.below1 (by omega) hB.size)))
      refine bodyPost_ret (w := w9) (v := .tuple #[.agg D.arr, .bool false]) (ret_two rfl rfl b9 Try.underlying25 rfl D.size rfl) rfl ⟨rfl, hB9⟩
  · have h0' : i < 0 := by omega
    obtain rfl : O = false := by rw [← HO.out]; simp [hearsB, h0]
    have hD : D = b := by rw [← HD.out, hearB, HO.out]; rfl
    subst hD
    clear HD HO
    go_wp2_with (first | refine load_blk rfl 25 _ rfl a1 rfl Try.underlying25 rfl D.size ?_ | (refine store_part rfl 25 _ _ rfl (off := 0) (cells := D.arr) a2 rfl rfl D.size (by simp [Bt.arr_size]) D.arr_one ?_; intro w9 b9 k9; rw [hpa] at b9; have hB9 : Below w.heap.size w w9 := hB.trans (k9.below1 (by omega) hB.size)))
    refine bodyPost_ret (w := w9) (v := .tuple #[.agg D.arr, .bool false]) (ret_two rfl rfl b9 Try.underlying25 rfl D.size rfl) rfl ⟨rfl, hB9⟩

set_option maxHeartbeats 2000000 in
theorem rreach_ok (b : Bt) (i : Int) (n wt : Nat) (hn : b.now < 4294967296) (hh : ∀ j, b.hd j < 4294967296) (hw : wt < 4294967296) (w : World) : Calls Try.prog 34 #[.agg b.arr, .int .i64 i, .int .u32 (n : Int), .int .u32 (wt : Int)] w fun e w' => e = .returned (.agg (mbc (rchB b i n wt))) ∧ Below w.heap.size w w' := by
  obtain ⟨a0, a1, a2, hB⟩ := three_blk (T0 := 25) (T1 := 28) (T2 := 28) (C0 := b.arr) (C1 := mbc noMb) (C2 := mbc noMb) (w := w) rfl
  rw [← rch_zero b i n wt] at a2
  have HN : Hid (b.now < 4294967296) := hn
  have HH : Hid (∀ j, b.hd j < 4294967296) := hh
  have HW : Hid (wt < 4294967296) := hw
  clear hn hh hw
  go_enter Try.func34, Try.ntmps34
  go_wp2_with (first | refine alloc_zero zeroMb rfl rfl ?_ | refine build_zero builtMb rfl rfl ?_ | refine store_new rfl 28 _ _ rfl (cells := mbc noMb) rfl rfl sizeMb rfl (mbc_one noMb) ?_)
  go_loopw [10] (fun iv wr => ∃ j : Nat, j ≤ 8 ∧ iv = .int .i64 j ∧ Blk w.heap.size b.arr 25 wr ∧ Blk (w.heap.size + 1) (mbc noMb) 28 wr ∧ Blk (w.heap.size + 1 + 1) (mbc (rchTo b i n wt j)) 28 wr ∧ Below w.heap.size w wr) (fun iv _ => 8 - (intOf iv).toNat)
  case atStart => exact ⟨0, by omega, rfl, a0, a1, a2, hB⟩
  case round =>
    clear a0 a1 a2 hB
    obtain ⟨j, hj, rfl, a0, a1, a2, hB⟩ := hrel
    by_cases hj8 : j < 8
    · have j0 : (j : Int) < 8 := by omega
      have j1 : (0 : Int) ≤ (j : Int) := by omega
      by_cases hji : (j : Int) = i
      · have hb : ((j : Int) == i) = true := by simpa using hji
        have hst := rch_set b i n wt j n hj8 (by simp [rchB, hji])
        clear hji
        go_wp2_with (refine store_one rfl 22 _ _ rfl (off := j) (.int .u32 (n : Int)) a2 rfl rfl rfl rfl sizeU32 (by rw [mbc_size]; omega) ?_; intro w5 b5 k5; rw [hst] at b5; have d0 := a0.kp1 k5 (by omega); have d1 := a1.kp1 k5 (by omega); have hD : Below w.heap.size w w5 := hB.trans (k5.below1 (by omega) hB.size))
        exact ⟨⟨j + 1, by omega, by go_num, d0, d1, b5, hD⟩, by simp [intOf]; omega⟩
      · have hb : ((j : Int) == i) = false := by simpa using hji
        have hr : rchB b i n wt j = if lateB b.now (b.hd j) wt = true then b.inc j else 0 := by simp [rchB, hji]
        clear hji
        have c0 := a0.cell 0 _ b.get_now
        have c1 := a0.cell (1 + j) _ (b.get_hd j hj8)
        have c2 := a0.cell (9 + j) _ (b.get_inc j hj8)
        obtain ⟨h, hh⟩ : ∃ h, b.hd j = h := ⟨_, rfl⟩
        have hhb : h < 4294967296 := by rw [← hh]; exact HH.out j
        have hnb := HN.out
        have hwb := HW.out
        rw [hh] at c1 hr
        by_cases h0 : h = 0
        · subst h0
          rw [show lateB b.now 0 wt = false by simp [lateB], if_neg (by decide)] at hr
          rw [rch_skip b i n wt j hr] at a2
          clear hh hhb hnb hwb
          go_wp2_with fail
          exact ⟨⟨j + 1, by omega, by go_num, a0, a1, a2, hB⟩, by simp [intOf]; omega⟩
        · have h0' : decide ((0 : Int) < (h : Int)) = true := by simp; omega
          have h0n : decide (0 < h) = true := by simp; omega
          by_cases h1 : h ≤ b.now
          · have e0 : IntKind.u64.wrap (b.now : Int) = (b.now : Int) := by rw [IntKind.wrap_u64]; omega
            have e1 : IntKind.u64.wrap (h : Int) = (h : Int) := by rw [IntKind.wrap_u64]; omega
            have e2 : IntKind.u64.wrap (wt : Int) = (wt : Int) := by rw [IntKind.wrap_u64]; omega
            have e3 : IntKind.u64.wrap ((h : Int) + (wt : Int)) = (h : Int) + (wt : Int) := by rw [IntKind.wrap_u64]; omega
            by_cases h2 : b.now ≤ h + wt
            · have h2' : (b.now : Int) ≤ (h : Int) + (wt : Int) := by omega
              rw [show lateB b.now h wt = true by simp [lateB, h0, h1]; omega, if_pos rfl] at hr
              have hst := rch_set b i n wt j _ hj8 hr
              clear hh hhb hnb hwb hr
              go_wp2_with (refine store_one rfl 22 _ _ rfl (off := j) (.int .u32 (b.inc j : Int)) a2 rfl rfl rfl rfl sizeU32 (by rw [mbc_size]; omega) ?_; intro w5 b5 k5; rw [hst] at b5; have d0 := a0.kp1 k5 (by omega); have d1 := a1.kp1 k5 (by omega); have hD : Below w.heap.size w w5 := hB.trans (k5.below1 (by omega) hB.size))
              exact ⟨⟨j + 1, by omega, by go_num, d0, d1, b5, hD⟩, by simp [intOf]; omega⟩
            · have h2' : ¬ (b.now : Int) ≤ (h : Int) + (wt : Int) := by omega
              rw [show lateB b.now h wt = false by simp [lateB]; omega, if_neg (by decide)] at hr
              rw [rch_skip b i n wt j hr] at a2
              clear hh hhb hnb hwb hr
              go_wp2_with fail
              exact ⟨⟨j + 1, by omega, by go_num, a0, a1, a2, hB⟩, by simp [intOf]; omega⟩
          · rw [show lateB b.now h wt = false by simp [lateB, h1], if_neg (by decide)] at hr
            rw [rch_skip b i n wt j hr] at a2
            clear hh hhb hnb hwb hr
            go_wp2_with fail
            exact ⟨⟨j + 1, by omega, by go_num, a0, a1, a2, hB⟩, by simp [intOf]; omega⟩
    · obtain rfl : j = 8 := by omega
      rw [rch_full] at a2
      have hpa : putAt (mbc noMb) 0 (mbc (rchB b i n wt)).toList = mbc (rchB b i n wt) := putAt_all _ _ rfl
      obtain ⟨C, hC⟩ : ∃ C, Hid (mbc (rchB b i n wt) = C) := ⟨_, rfl⟩
      go_wp2_with (first | refine load_blk rfl 28 _ rfl a2 rfl Try.underlying28 rfl sizeMb ?_ | (refine store_part rfl 28 _ _ rfl (off := 0) (cells := mbc (rchB b i n wt)) a1 rfl rfl sizeMb (by simp [mbc_size]) (mbc_one _) ?_; intro w2 b2 k2; rw [hpa] at b2; have hB2 : Below w.heap.size w w2 := hB.trans (k2.below1 (by omega) hB.size)))
      refine bodyPost_ret (w := w2) (v := .agg (mbc (rchB b i n wt))) (ret_one rfl rfl b2 Try.underlying28 rfl sizeMb) rfl ⟨rfl, hB2⟩

end Go.Proofs.Ythgmecgknhphmaa
