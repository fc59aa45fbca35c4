/-
  Of the texts beneath these laws, in their order: PkDec, PkDed, PkPs, PkBk, Pz.
  Each theorem says its own conditions.
-/
import Derived.Test.YthgfpdidilolgaaGreatZ13
import Derived.Test.YthgfpdidilolgaaGreatZ11
import Derived.Test.YthgfpdidilolgaaGreatZ05
namespace Go.Proofs.YthgfpdidilolgaaGreat.Eld
set_option maxRecDepth 10000
open Go.RowKit Go.Sort
theorem reader_new (w : World) (s : List UInt8) : Rd w.heap.size s false (w.alloc (.cells #[.string (ba s), .bool false] 234)) := blk_new w _ _
theorem pkc_put_all (p q : Pk) : putAt (pkc p) 0 (pkc q).toList = pkc q := by kernel_rfl
set_option maxHeartbeats 8000000 in
theorem read_pk (n : Nat → Nat) (t : Nat) (a b c : List UInt8) (G0 G1 G2 : Nat → En) (c0 c1 c2 : Int) (hn : ∀ i, n i < 4294967296) (hn0 : n 0 < 256) (hn3 : n 3 < 256) (hn22 : n 22 < 256) (hn107 : n 107 < 256) (ht : t < 256) (ha : a.length = 168) (hb : b.length = 168) (hc : c.length = 168)
  (k0 : ∀ w, Calls Tryz.prog 214 #[.string (ba a)] w fun r w' => r = .returned (.tuple #[.agg (frc G0), .int .i64 c0]) ∧ Below w.heap.size w w')
  (k1 : ∀ w, Calls Tryz.prog 214 #[.string (ba b)] w fun r w' => r = .returned (.tuple #[.agg (frc G1), .int .i64 c1]) ∧ Below w.heap.size w w')
  (k2 : ∀ w, Calls Tryz.prog 214 #[.string (ba c)] w fun r w' => r = .returned (.tuple #[.agg (frc G2), .int .i64 c2]) ∧ Below w.heap.size w w') (w : World) :
  Calls Tryz.prog 146 #[.string (ba (rawb n t a b c))] w fun e w' =>
   e = .returned (.tuple #[.agg (pkc ⟨n, decide (t = 1), G0, G1, G2⟩), .bool (!((((false || decide (1 < t)) || (c0 != 0)) || (c1 != 0)) || (c2 != 0)))]) ∧ Below w.heap.size w w' := by
 obtain ⟨C, hC⟩ : ∃ C, Hid (pkc ⟨n, decide (t = 1), G0, G1, G2⟩ = C) := ⟨_, rfl⟩
 rw [hC.out]
 obtain ⟨q, hq⟩ : ∃ q, Hid (((((false || decide (1 < t)) || (c0 != 0)) || (c1 != 0)) || (c2 != 0)) = q) := ⟨_, rfl⟩
 rw [hq.out]
 obtain ⟨rw_, hrw⟩ : ∃ z, Hid (rawb n t a b c = z) := ⟨_, rfl⟩
 rw [hrw.out]
 obtain ⟨R, hR⟩ : ∃ R, R = w.heap.size + 1 := ⟨_, rfl⟩
 obtain ⟨V, hV⟩ : ∃ V, V = w.heap.size + 1 + 1 := ⟨_, rfl⟩
 obtain ⟨C0, hC0⟩ : ∃ C0, Hid (pkc Pk.zero = C0) := ⟨_, rfl⟩
 obtain ⟨wa, hwa⟩ : ∃ wa, w.alloc (.cells (pkc Pk.zero) 116) = wa := ⟨_, rfl⟩
 have za : wa.heap.size = R := by rw [← hwa, hR]; simp
 obtain ⟨wb, hwb⟩ : ∃ wb, wa.alloc (.cells #[.string (ba rw_), .bool false] 234) = wb := ⟨_, rfl⟩
 have zb : wb.heap.size = V := by rw [← hwb, hV, ← hR, ← za]; simp
 obtain ⟨w0, hw0⟩ : ∃ w0, wb.alloc (.cells (pkc Pk.zero) 116) = w0 := ⟨_, rfl⟩
 have A0 : Blk w.heap.size C0 116 w0 := by
  rw [← hw0, ← hwb, ← hwa, hC0.out]; exact ((blk_new w _ _).alloc _).alloc _
 have R0 : Rd R rw_ false w0 := by
  have h := reader_new wa rw_
  rw [hwb, za] at h
  rw [← hw0]; exact Blk.alloc h _
 have V0 : Blk V C0 116 w0 := by
  have h := blk_new wb (pkc Pk.zero) 116
  rw [hw0, zb, hC0.out] at h; exact h
 have b0 : Below w.heap.size w w0 := by
  rw [← hw0, ← hwb, ← hwa]
  exact ((below_box w _).alloc (by simp) _).alloc (by simp; omega) _
 have s0 : C0.size = 145 := by rw [← hC0.out]; exact pkc_size _
 have hRV : R ≠ V := by omega
 have hAR : w.heap.size ≠ R := by omega
 have hAV : w.heap.size ≠ V := by omega
 have KR : Hid (R = w.heap.size + 1) := hR
 have KV : Hid (V = w.heap.size + 1 + 1) := hV
 have kn : Hid (∀ i, n i < 4294967296) := hn
 have k8 : Hid (n 0 < 256 ∧ n 3 < 256 ∧ n 22 < 256 ∧ n 107 < 256 ∧ t < 256) := ⟨hn0, hn3, hn22, hn107, ht⟩
 have la : Hid (a.length = 168) := ha
 have lb : Hid (b.length = 168) := hb
 have lc : Hid (c.length = 168) := hc
 rw [← hrw.out, rawb] at R0
 have Za : Hid (wa.heap.size = R) := za
 have Zb : Hid (wa.heap.size + 1 = V) := by unfold Hid; rw [za, hR]; exact hV.symm
 have HWB : Hid (wa.alloc (.cells #[.string (ba rw_), .bool false] 234) = wb) := hwb
 have HW0 : Hid (wb.alloc (.cells (pkc Pk.zero) 116) = w0) := hw0
 clear hwb hw0
 clear za zb hR hV hn hn0 hn3 hn22 hn107 ht ha hb hc
 go_enter Tryz.func146, Tryz.ntmps146
 go_wp2_with (first | refine alloc_pk rfl rfl ?_)
 rw [HWB.out, HW0.out, Zb.out, Za.out]
 refine (number1_rd R (n 0) _ _ (k8.out.1) (by simp only [List.length_append, Pack.digits_length, idb_length, rown_length]; have := la.out; have := lb.out; have := lc.out; omega) _ R0).mono ?_
 rintro e w1 ⟨rfl, R1a, u1⟩
 have A1a := A0.but u1 hAR
 have V1a := V0.but u1 hRV.symm
 have b1a := b0.trans (u1.below (by have := KR.out; omega) b0.size)
 clear A0 V0 b0 R0 u1
 obtain ⟨v1, ve1⟩ : ∃ v, C0[0]? = some v := ⟨_, Array.getElem?_eq_getElem (by rw [s0]; decide)⟩
 have q1 := V1a.cell 0 v1 ve1
 have f1 := V1a.free 0
 obtain ⟨W1, e1⟩ : ∃ W, w1.setCell ⟨V, 0, none⟩ (.int .u32 (n 0 : Int)) = W := ⟨_, rfl⟩
 obtain ⟨C1, hC1⟩ : ∃ C, Hid (C0.setIfInBounds 0 (.int .u32 (n 0 : Int)) = C) := ⟨_, rfl⟩
 have V1 : Blk V C1 116 W1 := by rw [← e1, ← hC1.out]; exact blk_set V1a 0 _
 have s1 : C1.size = 145 := by rw [← hC1.out, Array.size_setIfInBounds, s0]
 have t1 : But V w1 W1 := by rw [← e1]; exact But.setCell V 0 w1 _
 have A1 := A1a.but t1 hAV
 have R1 := R1a.but t1 hRV
 have b1 := b1a.trans (t1.below (by have := KV.out; omega) b1a.size)
 clear A1a V1a R1a b1a t1 ve1
 go_wp2_with fail
 refine (number4_rd R (n 1) _ _ (kn.out _) (by simp only [List.length_append, Pack.digits_length, idb_length, rown_length]; have := la.out; have := lb.out; have := lc.out; omega) _ R1).mono ?_
 rintro e w2 ⟨rfl, R2a, u2⟩
 have A2a := A1.but u2 hAR
 have V2a := V1.but u2 hRV.symm
 have b2a := b1.trans (u2.below (by have := KR.out; omega) b1.size)
 clear A1 V1 b1 R1 u2 q1 f1 e1
 obtain ⟨v2, ve2⟩ : ∃ v, C1[1]? = some v := ⟨_, Array.getElem?_eq_getElem (by rw [s1]; decide)⟩
 have q2 := V2a.cell 1 v2 ve2
 have f2 := V2a.free 1
 obtain ⟨W2, e2⟩ : ∃ W, w2.setCell ⟨V, 1, none⟩ (.int .u32 (n 1 : Int)) = W := ⟨_, rfl⟩
 obtain ⟨C2, hC2⟩ : ∃ C, Hid (C1.setIfInBounds 1 (.int .u32 (n 1 : Int)) = C) := ⟨_, rfl⟩
 have V2 : Blk V C2 116 W2 := by rw [← e2, ← hC2.out]; exact blk_set V2a 1 _
 have s2 : C2.size = 145 := by rw [← hC2.out, Array.size_setIfInBounds, s1]
 have t2 : But V w2 W2 := by rw [← e2]; exact But.setCell V 1 w2 _
 have A2 := A2a.but t2 hAV
 have R2 := R2a.but t2 hRV
 have b2 := b2a.trans (t2.below (by have := KV.out; omega) b2a.size)
 clear A2a V2a R2a b2a t2 ve2
 go_wp2_with fail
 refine (id_rd R (n 2) (n 3) (n 4) _ _ (kn.out _) (k8.out.2.1) (kn.out _) (by simp only [List.length_append, Pack.digits_length, idb_length, rown_length]; have := la.out; have := lb.out; have := lc.out; omega) _ R2).mono ?_
 rintro e w3 ⟨rfl, R3a, u3⟩
 have A3a := A2.but u3 hAR
 have V3a := V2.but u3 hRV.symm
 have b3a := b2.trans (u3.below (by have := KR.out; omega) b2.size)
 clear A2 V2 b2 R2 u3 q2 f2 e2
 go_wp2_with (refine store_part (off := 2) (cells := idc (n 2) (n 3) (n 4)) rfl 51 _ _ rfl V3a rfl rfl (by rw [idc_size]; exact sizeId) (by rw [idc_size, s2]; decide) (idc_one _ _ _) ?_; intro W3 V3b t3)
 obtain ⟨C3, hC3⟩ : ∃ C, Hid (putAt C2 2 (idc (n 2) (n 3) (n 4)).toList = C) := ⟨_, rfl⟩
 rw [hC3.out] at V3b
 have V3 := V3b
 have s3 : C3.size = 145 := by rw [← hC3.out, putAt_size, s2]
 have A3 := A3a.but t3 hAV
 have R3 := R3a.but t3 hRV
 have b3 := b3a.trans (t3.below (by have := KV.out; omega) b3a.size)
 clear A3a V3a V3b R3a b3a t3
 go_wp2_with fail
 refine (row_rd R 5 n _ _ kn.out (by simp only [List.length_append, Pack.digits_length, idb_length, rown_length]; have := la.out; have := lb.out; have := lc.out; omega) _ R3).mono ?_
 rintro e w4 ⟨rfl, R4a, u4⟩
 have A4a := A3.but u4 hAR
 have V4a := V3.but u4 hRV.symm
 have b4a := b3.trans (u4.below (by have := KR.out; omega) b3.size)
 clear A3 V3 b3 R3 u4
 go_wp2_with (refine store_part (off := 5) (cells := rowc n 5) rfl 55 _ _ rfl V4a rfl rfl (by rw [rowc_size]; exact sizeMem) (by rw [rowc_size, s3]; decide) (rowc_one _ _) ?_; intro W4 V4b t4)
 obtain ⟨C4, hC4⟩ : ∃ C, Hid (putAt C3 5 (rowc n 5).toList = C) := ⟨_, rfl⟩
 rw [hC4.out] at V4b
 have V4 := V4b
 have s4 : C4.size = 145 := by rw [← hC4.out, putAt_size, s3]
 have A4 := A4a.but t4 hAV
 have R4 := R4a.but t4 hRV
 have b4 := b4a.trans (t4.below (by have := KV.out; omega) b4a.size)
 clear A4a V4a V4b R4a b4a t4
 go_wp2_with fail
 refine (row_rd R 13 n _ _ kn.out (by simp only [List.length_append, Pack.digits_length, idb_length, rown_length]; have := la.out; have := lb.out; have := lc.out; omega) _ R4).mono ?_
 rintro e w5 ⟨rfl, R5a, u5⟩
 have A5a := A4.but u5 hAR
 have V5a := V4.but u5 hRV.symm
 have b5a := b4.trans (u5.below (by have := KR.out; omega) b4.size)
 clear A4 V4 b4 R4 u5
 go_wp2_with (refine store_part (off := 13) (cells := rowc n 13) rfl 60 _ _ rfl V5a rfl rfl (by rw [rowc_size]; exact sizeCnt) (by rw [rowc_size, s4]; decide) (rowc_one _ _) ?_; intro W5 V5b t5)
 obtain ⟨C5, hC5⟩ : ∃ C, Hid (putAt C4 13 (rowc n 13).toList = C) := ⟨_, rfl⟩
 rw [hC5.out] at V5b
 have V5 := V5b
 have s5 : C5.size = 145 := by rw [← hC5.out, putAt_size, s4]
 have A5 := A5a.but t5 hAV
 have R5 := R5a.but t5 hRV
 have b5 := b5a.trans (t5.below (by have := KV.out; omega) b5a.size)
 clear A5a V5a V5b R5a b5a t5
 go_wp2_with fail
 refine (id_rd R (n 21) (n 22) (n 23) _ _ (kn.out _) (k8.out.2.2.1) (kn.out _) (by simp only [List.length_append, Pack.digits_length, rown_length]; have := la.out; have := lb.out; have := lc.out; omega) _ R5).mono ?_
 rintro e w6 ⟨rfl, R6a, u6⟩
 have A6a := A5.but u6 hAR
 have V6a := V5.but u6 hRV.symm
 have b6a := b5.trans (u6.below (by have := KR.out; omega) b5.size)
 clear A5 V5 b5 R5 u6
 go_wp2_with (refine store_part (off := 21) (cells := idc (n 21) (n 22) (n 23)) rfl 51 _ _ rfl V6a rfl rfl (by rw [idc_size]; exact sizeId) (by rw [idc_size, s5]; decide) (idc_one _ _ _) ?_; intro W6 V6b t6)
 obtain ⟨C6, hC6⟩ : ∃ C, Hid (putAt C5 21 (idc (n 21) (n 22) (n 23)).toList = C) := ⟨_, rfl⟩
 rw [hC6.out] at V6b
 have V6 := V6b
 have s6 : C6.size = 145 := by rw [← hC6.out, putAt_size, s5]
 have A6 := A6a.but t6 hAV
 have R6 := R6a.but t6 hRV
 have b6 := b6a.trans (t6.below (by have := KV.out; omega) b6a.size)
 clear A6a V6a V6b R6a b6a t6
 go_wp2_with fail
 refine (row_rd R 24 n _ _ kn.out (by simp only [List.length_append, Pack.digits_length]; have := la.out; have := lb.out; have := lc.out; omega) _ R6).mono ?_
 rintro e w7 ⟨rfl, R7a, u7⟩
 have A7a := A6.but u7 hAR
 have V7a := V6.but u7 hRV.symm
 have b7a := b6.trans (u7.below (by have := KR.out; omega) b6.size)
 clear A6 V6 b6 R6 u7
 go_wp2_with (refine store_part (off := 24) (cells := rowc n 24) rfl 55 _ _ rfl V7a rfl rfl (by rw [rowc_size]; exact sizeMem) (by rw [rowc_size, s6]; decide) (rowc_one _ _) ?_; intro W7 V7b t7)
 obtain ⟨C7, hC7⟩ : ∃ C, Hid (putAt C6 24 (rowc n 24).toList = C) := ⟨_, rfl⟩
 rw [hC7.out] at V7b
 have V7 := V7b
 have s7 : C7.size = 145 := by rw [← hC7.out, putAt_size, s6]
 have A7 := A7a.but t7 hAV
 have R7 := R7a.but t7 hRV
 have b7 := b7a.trans (t7.below (by have := KV.out; omega) b7a.size)
 clear A7a V7a V7b R7a b7a t7
 go_wp2_with fail
 refine (flag_rd R t _ _ k8.out.2.2.2.2 (by simp only [List.length_append, Pack.digits_length]; have := la.out; have := lb.out; have := lc.out; omega) _ R7).mono ?_
 rintro e w8 ⟨rfl, R8a, u8⟩
 have A8a := A7.but u8 hAR
 have V8a := V7.but u8 hRV.symm
 have b8a := b7.trans (u8.below (by have := KR.out; omega) b7.size)
 clear A7 V7 b7 R7 u8
 obtain ⟨v8, ve8⟩ : ∃ v, C7[32]? = some v := ⟨_, Array.getElem?_eq_getElem (by rw [s7]; decide)⟩
 have q8 := V8a.cell 32 v8 ve8
 have f8 := V8a.free 32
 obtain ⟨W8, e8⟩ : ∃ W, w8.setCell ⟨V, 32, none⟩ (.bool (decide (t = 1))) = W := ⟨_, rfl⟩
 obtain ⟨C8, hC8⟩ : ∃ C, Hid (C7.setIfInBounds 32 (.bool (decide (t = 1))) = C) := ⟨_, rfl⟩
 have V8 : Blk V C8 116 W8 := by rw [← e8, ← hC8.out]; exact blk_set V8a 32 _
 have s8 : C8.size = 145 := by rw [← hC8.out, Array.size_setIfInBounds, s7]
 have t8 : But V w8 W8 := by rw [← e8]; exact But.setCell V 32 w8 _
 have A8 := A8a.but t8 hAV
 have R8 := R8a.but t8 hRV
 have b8 := b8a.trans (t8.below (by have := KV.out; omega) b8a.size)
 clear A8a V8a R8a b8a t8 ve8
 go_wp2_with fail
 refine (number4_rd R (n 33) _ _ (kn.out _) (by simp only [List.length_append, Pack.digits_length]; have := la.out; have := lb.out; have := lc.out; omega) _ R8).mono ?_
 rintro e w9 ⟨rfl, R9a, u9⟩
 have A9a := A8.but u9 hAR
 have V9a := V8.but u9 hRV.symm
 have b9a := b8.trans (u9.below (by have := KR.out; omega) b8.size)
 clear A8 V8 b8 R8 u9 q8 f8 e8
 obtain ⟨v9, ve9⟩ : ∃ v, C8[33]? = some v := ⟨_, Array.getElem?_eq_getElem (by rw [s8]; decide)⟩
 have q9 := V9a.cell 33 v9 ve9
 have f9 := V9a.free 33
 obtain ⟨W9, e9⟩ : ∃ W, w9.setCell ⟨V, 33, none⟩ (.int .u32 (n 33 : Int)) = W := ⟨_, rfl⟩
 obtain ⟨C9, hC9⟩ : ∃ C, Hid (C8.setIfInBounds 33 (.int .u32 (n 33 : Int)) = C) := ⟨_, rfl⟩
 have V9 : Blk V C9 116 W9 := by rw [← e9, ← hC9.out]; exact blk_set V9a 33 _
 have s9 : C9.size = 145 := by rw [← hC9.out, Array.size_setIfInBounds, s8]
 have t9 : But V w9 W9 := by rw [← e9]; exact But.setCell V 33 w9 _
 have A9 := A9a.but t9 hAV
 have R9 := R9a.but t9 hRV
 have b9 := b9a.trans (t9.below (by have := KV.out; omega) b9a.size)
 clear A9a V9a R9a b9a t9 ve9
 go_wp2_with fail
 refine (number4_rd R (n 34) _ _ (kn.out _) (by simp only [List.length_append, Pack.digits_length]; have := la.out; have := lb.out; have := lc.out; omega) _ R9).mono ?_
 rintro e w10 ⟨rfl, R10a, u10⟩
 have A10a := A9.but u10 hAR
 have V10a := V9.but u10 hRV.symm
 have b10a := b9.trans (u10.below (by have := KR.out; omega) b9.size)
 clear A9 V9 b9 R9 u10 q9 f9 e9
 obtain ⟨v10, ve10⟩ : ∃ v, C9[34]? = some v := ⟨_, Array.getElem?_eq_getElem (by rw [s9]; decide)⟩
 have q10 := V10a.cell 34 v10 ve10
 have f10 := V10a.free 34
 obtain ⟨W10, e10⟩ : ∃ W, w10.setCell ⟨V, 34, none⟩ (.int .u32 (n 34 : Int)) = W := ⟨_, rfl⟩
 obtain ⟨C10, hC10⟩ : ∃ C, Hid (C9.setIfInBounds 34 (.int .u32 (n 34 : Int)) = C) := ⟨_, rfl⟩
 have V10 : Blk V C10 116 W10 := by rw [← e10, ← hC10.out]; exact blk_set V10a 34 _
 have s10 : C10.size = 145 := by rw [← hC10.out, Array.size_setIfInBounds, s9]
 have t10 : But V w10 W10 := by rw [← e10]; exact But.setCell V 34 w10 _
 have A10 := A10a.but t10 hAV
 have R10 := R10a.but t10 hRV
 have b10 := b10a.trans (t10.below (by have := KV.out; omega) b10a.size)
 clear A10a V10a R10a b10a t10 ve10
 go_wp2_with fail
 refine (frame_rd R a _ _ G0 c0 la.out (by simp only [List.length_append, Pack.digits_length]; have := la.out; have := lb.out; have := lc.out; omega) k0 _ R10).mono ?_
 rintro e w11 ⟨rfl, R11a, u11⟩
 have A11a := A10.but u11 hAR
 have V11a := V10.but u11 hRV.symm
 have b11a := b10.trans (u11.below (by have := KR.out; omega) b10.size)
 clear A10 V10 b10 R10 u11 q10 f10 e10
 go_wp2_with (refine store_part (off := 35) (cells := frc G0) rfl 43 _ _ rfl V11a rfl rfl (by rw [frc_size]; exact size27) (by rw [frc_size, s10]; decide) (frc_one _) ?_; intro W11 V11b t11)
 obtain ⟨C11, hC11⟩ : ∃ C, Hid (putAt C10 35 (frc G0).toList = C) := ⟨_, rfl⟩
 rw [hC11.out] at V11b
 have V11 := V11b
 have s11 : C11.size = 145 := by rw [← hC11.out, putAt_size, s10]
 have A11 := A11a.but t11 hAV
 have R11 := R11a.but t11 hRV
 have b11 := b11a.trans (t11.below (by have := KV.out; omega) b11a.size)
 clear A11a V11a V11b R11a b11a t11
 go_wp2_with fail
 refine (frame_rd R b _ _ G1 c1 lb.out (by simp only [List.length_append, Pack.digits_length]; have := la.out; have := lb.out; have := lc.out; omega) k1 _ R11).mono ?_
 rintro e w12 ⟨rfl, R12a, u12⟩
 have A12a := A11.but u12 hAR
 have V12a := V11.but u12 hRV.symm
 have b12a := b11.trans (u12.below (by have := KR.out; omega) b11.size)
 clear A11 V11 b11 R11 u12
 go_wp2_with (refine store_part (off := 71) (cells := frc G1) rfl 43 _ _ rfl V12a rfl rfl (by rw [frc_size]; exact size27) (by rw [frc_size, s11]; decide) (frc_one _) ?_; intro W12 V12b t12)
 obtain ⟨C12, hC12⟩ : ∃ C, Hid (putAt C11 71 (frc G1).toList = C) := ⟨_, rfl⟩
 rw [hC12.out] at V12b
 have V12 := V12b
 have s12 : C12.size = 145 := by rw [← hC12.out, putAt_size, s11]
 have A12 := A12a.but t12 hAV
 have R12 := R12a.but t12 hRV
 have b12 := b12a.trans (t12.below (by have := KV.out; omega) b12a.size)
 clear A12a V12a V12b R12a b12a t12
 go_wp2_with fail
 refine (number1_rd R (n 107) _ _ (k8.out.2.2.2.1) (by simp only [List.length_append, Pack.digits_length]; have := la.out; have := lb.out; have := lc.out; omega) _ R12).mono ?_
 rintro e w13 ⟨rfl, R13a, u13⟩
 have A13a := A12.but u13 hAR
 have V13a := V12.but u13 hRV.symm
 have b13a := b12.trans (u13.below (by have := KR.out; omega) b12.size)
 clear A12 V12 b12 R12 u13
 obtain ⟨v13, ve13⟩ : ∃ v, C12[107]? = some v := ⟨_, Array.getElem?_eq_getElem (by rw [s12]; decide)⟩
 have q13 := V13a.cell 107 v13 ve13
 have f13 := V13a.free 107
 obtain ⟨W13, e13⟩ : ∃ W, w13.setCell ⟨V, 107, none⟩ (.int .u32 (n 107 : Int)) = W := ⟨_, rfl⟩
 obtain ⟨C13, hC13⟩ : ∃ C, Hid (C12.setIfInBounds 107 (.int .u32 (n 107 : Int)) = C) := ⟨_, rfl⟩
 have V13 : Blk V C13 116 W13 := by rw [← e13, ← hC13.out]; exact blk_set V13a 107 _
 have s13 : C13.size = 145 := by rw [← hC13.out, Array.size_setIfInBounds, s12]
 have t13 : But V w13 W13 := by rw [← e13]; exact But.setCell V 107 w13 _
 have A13 := A13a.but t13 hAV
 have R13 := R13a.but t13 hRV
 have b13 := b13a.trans (t13.below (by have := KV.out; omega) b13a.size)
 clear A13a V13a R13a b13a t13 ve13
 go_wp2_with fail
 refine (number4_rd R (n 108) _ _ (kn.out _) (by have := la.out; have := lb.out; have := lc.out; omega) _ R13).mono ?_
 rintro e w14 ⟨rfl, R14a, u14⟩
 have A14a := A13.but u14 hAR
 have V14a := V13.but u14 hRV.symm
 have b14a := b13.trans (u14.below (by have := KR.out; omega) b13.size)
 clear A13 V13 b13 R13 u14 q13 f13 e13
 obtain ⟨v14, ve14⟩ : ∃ v, C13[108]? = some v := ⟨_, Array.getElem?_eq_getElem (by rw [s13]; decide)⟩
 have q14 := V14a.cell 108 v14 ve14
 have f14 := V14a.free 108
 obtain ⟨W14, e14⟩ : ∃ W, w14.setCell ⟨V, 108, none⟩ (.int .u32 (n 108 : Int)) = W := ⟨_, rfl⟩
 obtain ⟨C14, hC14⟩ : ∃ C, Hid (C13.setIfInBounds 108 (.int .u32 (n 108 : Int)) = C) := ⟨_, rfl⟩
 have V14 : Blk V C14 116 W14 := by rw [← e14, ← hC14.out]; exact blk_set V14a 108 _
 have s14 : C14.size = 145 := by rw [← hC14.out, Array.size_setIfInBounds, s13]
 have t14 : But V w14 W14 := by rw [← e14]; exact But.setCell V 108 w14 _
 have A14 := A14a.but t14 hAV
 have R14 := R14a.but t14 hRV
 have b14 := b14a.trans (t14.below (by have := KV.out; omega) b14a.size)
 clear A14a V14a R14a b14a t14 ve14
 go_wp2_with fail
 refine (frame_rd R c [] _ G2 c2 lc.out (by simp) k2 _ (by rw [List.append_nil]; exact R14)).mono ?_
 rintro e w15 ⟨rfl, R15a, u15⟩
 have A15a := A14.but u15 hAR
 have V15a := V14.but u15 hRV.symm
 have b15a := b14.trans (u15.below (by have := KR.out; omega) b14.size)
 clear A14 V14 b14 R14 u15 q14 f14 e14
 go_wp2_with (refine store_part (off := 109) (cells := frc G2) rfl 43 _ _ rfl V15a rfl rfl (by rw [frc_size]; exact size27) (by rw [frc_size, s14]; decide) (frc_one _) ?_; intro W15 V15b t15)
 obtain ⟨C15, hC15⟩ : ∃ C, Hid (putAt C14 109 (frc G2).toList = C) := ⟨_, rfl⟩
 rw [hC15.out] at V15b
 have V15 := V15b
 have s15 : C15.size = 145 := by rw [← hC15.out, putAt_size, s14]
 have A15 := A15a.but t15 hAV
 have R15 := R15a.but t15 hRV
 have b15 := b15a.trans (t15.below (by have := KV.out; omega) b15a.size)
 clear A15a V15a V15b R15a b15a t15
 have hfin : Hid (C15 = C) := by
  unfold Hid
  rw [← hC.out, ← hC15.out, ← hC14.out, ← hC13.out, ← hC12.out, ← hC11.out, ← hC10.out, ← hC9.out, ← hC8.out, ← hC7.out, ← hC6.out, ← hC5.out, ← hC4.out, ← hC3.out, ← hC2.out, ← hC1.out, ← hC0.out]
  kernel_rfl
 have h15 := hfin.out
 subst h15
 rw [hq.out] at R15
 go_wp2_with fail
 refine wp_region_held_drew (S := fun w' => Blk V C15 116 w' ∧ Rd R [] q w') (by kernel_rfl) ⟨V15.drew, Blk.drew R15⟩ (fun hHeld => ?_)
 refine' wpAnyH_take (i := 0) (v := _) rfl (by kernel_rfl) (by kernel_rfl) (by kernel_rfl) (fun _ _ _ h => h) (yieldsIf_load_mid (by rfl) _ _ rfl V 0 rfl C15.toList _ ?hS0 Tryz.underlying116 rfl (by rw [Array.length_toList, s15]; exact size35)) hHeld ?_
 case hS0 => exact fun w h => h.1.range 0 C15.toList (by simp)
 try simp only [List.getElem_toArray]
 try simp only [List.getElem_cons_succ]
 try simp only [List.getElem_cons_zero]
 try simp only [Act.put]
 try simp only [List.setIfInBounds_toArray]
 try simp only [List.set_cons_succ]
 try simp only [List.set_cons_zero]
 refine wpAnyH_take (i := 1) (v := ?v1) rfl (by kernel_rfl) (by kernel_rfl) (by kernel_rfl) (fun _ _ _ h => h) (Or.inl ⟨by rfl, ?hy1⟩) hHeld ?_
 case hy1 => (intro w hSw; clear hSw; go_simp; try with_reducible rfl)
 try simp only [List.getElem_toArray]
 try simp only [List.getElem_cons_succ]
 try simp only [List.getElem_cons_zero]
 try simp only [Act.put]
 try simp only [List.setIfInBounds_toArray]
 try simp only [List.set_cons_succ]
 try simp only [List.set_cons_zero]
 refine wpAnyH_take (i := 2) (v := .bool q) rfl (by kernel_rfl) (by kernel_rfl) (by kernel_rfl) (fun _ _ _ h => h) (Or.inl ⟨by rfl, ?hy2⟩) hHeld ?_
 case hy2 => (intro w hSw; have hcc := Blk.cell hSw.2 1 (.bool q) rfl; clear hSw; go_simp; try with_reducible rfl)
 try simp only [List.getElem_toArray]
 try simp only [List.getElem_cons_succ]
 try simp only [List.getElem_cons_zero]
 try simp only [Act.put]
 try simp only [List.setIfInBounds_toArray]
 try simp only [List.set_cons_succ]
 try simp only [List.set_cons_zero]
 refine wpAnyH_take (i := 3) (v := ?v3) rfl (by kernel_rfl) (by kernel_rfl) (by kernel_rfl) (fun _ _ _ h => h) (Or.inl ⟨by rfl, ?hy3⟩) hHeld ?_
 case hy3 => (intro w hSw; clear hSw; go_simp; try with_reducible rfl)
 try simp only [List.getElem_toArray]
 try simp only [List.getElem_cons_succ]
 try simp only [List.getElem_cons_zero]
 try simp only [Act.put]
 try simp only [List.setIfInBounds_toArray]
 try simp only [List.set_cons_succ]
 try simp only [List.set_cons_zero]
 refine wpAnyH_ready (rs := [4]) (by kernel_rfl) (by simp) ?_
 refine AllReadyH.cons rfl (fun K hK => ?_) AllReadyH.nil
 have h1c : C15.all (·.oneCell') = true := by rw [← hC.out]; exact pkc_one _
 have hAd : Blk w.heap.size C0 116 W15.drew := A15.drew
 have hth := hAd.there 0 C15.size (by rw [s15, s0]; decide)
 have hput : putAt C0 0 C15.toList = C15 := by rw [← hC.out, ← hC0.out]; exact pkc_put_all _ _
 obtain ⟨WF, hWF⟩ : ∃ W, W15.drew.setCells w.heap.size 0 C15.toList = W := ⟨_, rfl⟩
 have AF : Blk w.heap.size C15 116 WF := by
  have h := hAd.setCells C15.toList 0
  rw [hput, hWF] at h; exact h
 have tF : But w.heap.size W15.drew WF := by rw [← hWF]; exact But.setCells _ _ _ _
 have VF := V15.drew.but tF hAV.symm
 have RF := (show Rd R [] q W15.drew from Blk.drew R15).but tF hAR.symm
 have bF : Below w.heap.size w WF := (b15.drew).trans (tF.below (Nat.le_refl _) (by have := b15.size; exact this))
 have s15' : (Tryz.prog.info? 116).map (·.size) = some C15.size := by rw [s15]; exact size35
 rw [if_pos (by rfl)]
 refine wp_store_mid 116 _ _ rfl w.heap.size 0 C15 rfl rfl hth s15' h1c ?_
 rw [hWF]
 refine hK.out _ _ ⟨VF, RF⟩ (fun hHeld => ?_)
 clear hK K
 refine wpAnyH_take (i := 5) (v := ?v5) rfl (by kernel_rfl) (by kernel_rfl) (by kernel_rfl) (fun _ _ _ h => h) (Or.inl ⟨by rfl, ?hy5⟩) hHeld ?_
 case hy5 => (intro w hSw; clear hSw; go_simp; try with_reducible rfl)
 try simp only [List.getElem_toArray]
 try simp only [List.getElem_cons_succ]
 try simp only [List.getElem_cons_zero]
 try simp only [Act.put]
 try simp only [List.setIfInBounds_toArray]
 try simp only [List.set_cons_succ]
 try simp only [List.set_cons_zero]
 refine wpAnyH_done (by kernel_rfl) ?_ _
 go_wp2_with fail
 refine bodyPost_ret (ret_pk Tryz.results146 rfl AF s15 rfl) rfl ⟨rfl, bF⟩
end Go.Proofs.YthgfpdidilolgaaGreat.Eld
namespace Go.Proofs.YthgfpdidilolgaaGreat.Eld
set_option maxRecDepth 10000
open Go.RowKit Go.Sort
set_option maxHeartbeats 1000000 in
theorem dec_sum (s : ByteArray) (hs : s.size = 641) (hok : Crc.okL s.data.toList = false) (w : World) : Calls Tryz.prog 107 #[.string s] w fun r w' =>
  r = .returned (.tuple #[.agg (pkc Pk.zero), .int .i64 51]) ∧ Below w.heap.size w w' := by
 have hs2 : ((s.size : Int) != 641) = false := by rw [hs]; rfl
 have hk := fun w => ok_any s w (by omega)
 rw [hok] at hk
 obtain ⟨w0, hw0⟩ : ∃ w0, w.alloc (.cells (pkc Pk.zero) 116) = w0 := ⟨_, rfl⟩
 have A0 : Blk w.heap.size (pkc Pk.zero) 116 w0 := by rw [← hw0]; exact blk_new w _ _
 have b0 : Below w.heap.size w w0 := by rw [← hw0]; exact below_box _ _
 clear hs
 go_enter Tryz.func107, Tryz.ntmps107
 go_wp2_with (first | refine alloc_pk rfl rfl ?_)
 refine (hk _).mono ?_
 rintro r w1 ⟨rfl, hb1⟩
 have A1 := A0.below hb1
 have b1 := b0.trans (hb1.mono b0.size)
 clear hk hb1 A0 b0 hw0
 go_wp2_with (first | refine build_pk rfl rfl ?_ | refine store_same rfl 116 _ _ rfl A1 rfl rfl (by rw [pkc_size]; exact size35) (pkc_one _) ?_)
 refine bodyPost_ret (ret_pk Tryz.results107 rfl A1 (pkc_size _) rfl) rfl ⟨rfl, b1⟩
def spoilt (t : Nat) (c0 c1 c2 : Int) : Bool := ((((false || decide (1 < t)) || (c0 != 0)) || (c1 != 0)) || (c2 != 0))
set_option maxHeartbeats 2000000 in
theorem dec_form (s : ByteArray) (n : Nat → Nat) (t : Nat) (a b c f : List UInt8) (G0 G1 G2 : Nat → En) (c0 c1 c2 : Int) (hf : f.length = 4) (hs : s.data.toList = rawb n t a b c ++ f) (hok : Crc.okL s.data.toList = true)
  (hn : ∀ i, n i < 4294967296) (hn0 : n 0 < 256) (hn3 : n 3 < 256) (hn22 : n 22 < 256) (hn107 : n 107 < 256) (ht : t < 256) (ha : a.length = 168) (hb : b.length = 168) (hc : c.length = 168)
  (k0 : ∀ w, Calls Tryz.prog 214 #[.string (ba a)] w fun r w' => r = .returned (.tuple #[.agg (frc G0), .int .i64 c0]) ∧ Below w.heap.size w w')
  (k1 : ∀ w, Calls Tryz.prog 214 #[.string (ba b)] w fun r w' => r = .returned (.tuple #[.agg (frc G1), .int .i64 c1]) ∧ Below w.heap.size w w')
  (k2 : ∀ w, Calls Tryz.prog 214 #[.string (ba c)] w fun r w' => r = .returned (.tuple #[.agg (frc G2), .int .i64 c2]) ∧ Below w.heap.size w w') (w : World) :
  Calls Tryz.prog 107 #[.string s] w fun r w' =>
  r = .returned (if !spoilt t c0 c1 c2 && Pk.may ⟨n, decide (t = 1), G0, G1, G2⟩ then .tuple #[.agg (pkc ⟨n, decide (t = 1), G0, G1, G2⟩), .int .i64 0] else .tuple #[.agg (pkc Pk.zero), .int .i64 52]) ∧ Below w.heap.size w w' := by
 have hl : (rawb n t a b c).length = 637 := by rw [rawb_length, ha, hb, hc]
 have hsz : s.size = 641 := by rw [← Pack.size_list, hs, List.length_append, hl, hf]
 have hs2 : ((s.size : Int) != 641) = false := by rw [hsz]; rfl
 have hcut : s.extract 0 637 = ba (rawb n t a b c) := by
  apply Pack.ext_list
  rw [Pack.extract_list, hs, ba_data, List.drop_zero, Nat.sub_zero, List.take_append_of_le_length (by omega), List.take_of_length_le (by omega)]
 have hsl : ∀ w : World, (Instr.slice 9 (.string s) none (some (.int .i64 637)) none).run Tryz.prog w = .ok (.string (ba (rawb n t a b c))) w := by
  intro w
  rw [← hcut]
  simp [go_sem, hsz]
 have hk := fun w => ok_any s w (by omega)
 rw [hok] at hk
 have hread := fun w => read_pk n t a b c G0 G1 G2 c0 c1 c2 hn hn0 hn3 hn22 hn107 ht ha hb hc k0 k1 k2 w
 have hmay := fun w => mayBe_pk ⟨n, decide (t = 1), G0, G1, G2⟩ w
 generalize ba (rawb n t a b c) = raw at hsl hread
 change ∀ w, Calls Tryz.prog 146 #[.string raw] w fun e w' => e = .returned (.tuple #[.agg (pkc ⟨n, decide (t = 1), G0, G1, G2⟩), .bool (!spoilt t c0 c1 c2)]) ∧ Below w.heap.size w w' at hread
 generalize spoilt t c0 c1 c2 = sp at hread ⊢
 generalize (⟨n, decide (t = 1), G0, G1, G2⟩ : Pk) = P at hread hmay ⊢
 obtain ⟨res, hres⟩ : ∃ res : Value, Hid ((if !sp && P.may then .tuple #[.agg (pkc P), .int .i64 0] else .tuple #[.agg (pkc Pk.zero), .int .i64 52]) = res) := ⟨_, rfl⟩
 rw [hres.out]
 obtain ⟨w0, hw0⟩ : ∃ w0, w.alloc (.cells (pkc Pk.zero) 116) = w0 := ⟨_, rfl⟩
 have A0 : Blk w.heap.size (pkc Pk.zero) 116 w0 := by rw [← hw0]; exact blk_new w _ _
 have b0 : Below w.heap.size w w0 := by rw [← hw0]; exact below_box _ _
 clear hn hn0 hn3 hn22 hn107 ht ha hb hc k0 k1 k2 hl hsz hcut hok hs hf
 go_enter Tryz.func107, Tryz.ntmps107
 go_wp2_with (first | refine alloc_pk rfl rfl ?_)
 refine (hk _).mono ?_
 rintro r w1 ⟨rfl, hb1⟩
 have A1 := A0.below hb1
 have b1 := b0.trans (hb1.mono b0.size)
 clear hk hb1 A0 b0 hw0
 go_wp2_with fail
 refine (hread _).mono ?_
 rintro r w2 ⟨rfl, hb2⟩
 obtain ⟨W2, hW2⟩ : ∃ W2, w2.alloc (.cells (pkc P) 116) = W2 := ⟨_, rfl⟩
 have A2 : Blk w.heap.size (pkc Pk.zero) 116 W2 := by rw [← hW2]; exact (A1.below hb2).alloc _
 have V2 : Blk w2.heap.size (pkc P) 116 W2 := by rw [← hW2]; exact blk_new w2 _ _
 have b2 : Below w.heap.size w W2 := by
  rw [← hW2]; exact (b1.trans (hb2.mono b1.size)).alloc (Nat.le_trans b1.size hb2.size) _
 clear hread hb2 A1 b1
 cases sp
 ·cases hm : P.may
  ·rw [hm] at hmay
   go_wp2_with (first | refine alloc_pk rfl rfl ?_ | (refine store_new (cells := pkc P) rfl 116 _ _ rfl rfl rfl (by rw [pkc_size]; exact size35) (by rw [pkc_size, pkc_size]) (pkc_one _) ?_; rw [hW2]) | refine load_want (by rfl) 116 _ rfl V2 rfl Tryz.underlying116 rfl (by rw [pkc_size]; exact size35) ?_)
   refine (hmay _).mono ?_
   rintro r w3 ⟨rfl, hb3⟩
   have A3 := A2.below hb3
   have b3 := b2.trans (hb3.mono b2.size)
   clear hmay hb3 A2 b2 hW2 V2
   go_wp2_with (first | refine build_pk rfl rfl ?_ | refine store_same rfl 116 _ _ rfl A3 rfl rfl (by rw [pkc_size]; exact size35) (pkc_one _) ?_)
   refine bodyPost_ret (ret_pk Tryz.results107 rfl A3 (pkc_size _) rfl) rfl ⟨by rw [← hres.out, hm]; rfl, b3⟩
  ·rw [hm] at hmay
   go_wp2_with (first | refine alloc_pk rfl rfl ?_ | (refine store_new (cells := pkc P) rfl 116 _ _ rfl rfl rfl (by rw [pkc_size]; exact size35) (by rw [pkc_size, pkc_size]) (pkc_one _) ?_; rw [hW2]) | refine load_want (by rfl) 116 _ rfl V2 rfl Tryz.underlying116 rfl (by rw [pkc_size]; exact size35) ?_)
   refine (hmay _).mono ?_
   rintro r w3 ⟨rfl, hb3⟩
   have A3 := A2.below hb3
   have V3 := V2.below hb3
   have b3 := b2.trans (hb3.mono b2.size)
   clear hmay hb3 A2 b2 hW2 V2
   go_wp2_with (first | refine load_blk rfl 116 _ rfl V3 rfl Tryz.underlying116 rfl (by rw [pkc_size]; exact size35) ?_ | (refine store_part (off := 0) (cells := pkc P) rfl 116 _ _ rfl A3 rfl rfl (by rw [pkc_size]; exact size35) (by rw [pkc_size, pkc_size]; omega) (pkc_one _) ?_; intro W4 A4 u4))
   rw [pkc_put_all] at A4
   refine bodyPost_ret (ret_pk Tryz.results107 rfl A4 (pkc_size _) rfl) rfl ⟨by rw [← hres.out, hm]; rfl, b3.trans (u4.below (Nat.le_refl _) b3.size)⟩
 ·go_wp2_with (first | refine alloc_pk rfl rfl ?_ | refine build_pk rfl rfl ?_ | (refine store_new (cells := pkc P) rfl 116 _ _ rfl rfl rfl (by rw [pkc_size]; exact size35) (by rw [pkc_size, pkc_size]) (pkc_one _) ?_; rw [hW2]) | refine store_same rfl 116 _ _ rfl A2 rfl rfl (by rw [pkc_size]; exact size35) (pkc_one _) ?_)
  refine bodyPost_ret (ret_pk Tryz.results107 rfl A2 (pkc_size _) rfl) rfl ⟨by rw [← hres.out]; rfl, b2⟩
end Go.Proofs.YthgfpdidilolgaaGreat.Eld
namespace Go.Proofs.YthgfpdidilolgaaGreat.Eld
set_option maxRecDepth 10000
open Go.RowKit Go.Sort
theorem sealed_list (p : Pk) : p.sealed.data.toList = p.body ++ Crc.fourL (Crc.sum p.body) := by
 unfold Pk.sealed
 rw [Pack.append_list, ba_data, Crc.four_data]
theorem sealed_okL (p : Pk) : Crc.okL p.sealed.data.toList = true := by
 rw [sealed_list]; exact Crc.ok_sealed _
end Go.Proofs.YthgfpdidilolgaaGreat.Eld
namespace Go.Proofs.YthgfpdidilolgaaGreat.Eld
set_option maxRecDepth 10000
open Go.RowKit Go.Sort
theorem Pk.may_parts {p : Pk} (h : p.may = true) : p.n 0 < 8 ∧ p.n 107 < 8 ∧ p.n 3 < 8 ∧ p.n 22 < 8 ∧ Fr.may p.f0 = true ∧ Fr.may p.f1 = true ∧ Fr.may p.f2 = true := by
 unfold Pk.may at h
 simp only [Bool.and_eq_true, decide_eq_true_eq] at h
 exact ⟨h.1.1, h.1.2.1, h.1.2.2.1, h.1.2.2.2, h.2.1, h.2.2.1, h.2.2.2⟩
theorem decode_sealed (p : Pk) (hm : p.may = true) (hn : ∀ i, p.n i < 4294967296) (w : World) : Calls Tryz.prog 107 #[.string p.sealed] w fun r w' =>
  r = .returned (.tuple #[.agg (pkc p), .int .i64 0]) ∧ Below w.heap.size w w' := by
 obtain ⟨h0, h107, h3, h22, m0, m1, m2⟩ := Pk.may_parts hm
 have hd0 := fun w => decode_bytes p.f0 m0 w
 have hd1 := fun w => decode_bytes p.f1 m1 w
 have hd2 := fun w => decode_bytes p.f2 m2 w
 rw [ba_fr] at hd0 hd1 hd2
 have hr : decide ((if p.r then 1 else 0) = 1) = p.r := by cases p.r <;> rfl
 have h := dec_form p.sealed p.n (if p.r then 1 else 0) (Fr.bytes p.f0).data.toList (Fr.bytes p.f1).data.toList (Fr.bytes p.f2).data.toList (Crc.fourL (Crc.sum p.body)) p.f0 p.f1 p.f2 0 0 0 rfl (sealed_list p) (sealed_okL p) hn (by omega) (by omega) (by omega) (by omega) (by split <;> omega) (frb_length _) (frb_length _) (frb_length _) hd0 hd1 hd2 w
 have hs : spoilt (if p.r then 1 else 0) 0 0 0 = false := by cases p.r <;> rfl
 have hp : (⟨p.n, decide ((if p.r then 1 else 0) = 1), p.f0, p.f1, p.f2⟩ : Pk) = p := by rw [hr]
 rw [hp, hs, hm] at h
 exact h
end Go.Proofs.YthgfpdidilolgaaGreat.Eld
namespace Go.Proofs.YthgfpdidilolgaaGreat
set_option maxRecDepth 10000
open Go.RowKit Go.Sort
def En.eld (x : En) : Eld.En := ⟨x.k, x.sv, x.g, x.se, x.n, x.t⟩
def frE (f : Nat → En) : Nat → Eld.En := fun i => (f i).eld
def frOk (f : Nat → En) : Bool := Eld.Fr.may (frE f)
def Pw.num (x : Pw) (i : Nat) : Nat :=
 if i = 0 then x.fr else if i = 1 then x.inc else if i = 2 then x.conf.e else if i = 3 then x.conf.c else if i = 4 then x.conf.i
 else if i < 13 then x.mem (i - 5) else if i < 21 then x.count (i - 13) else if i = 21 then x.pr.e else if i = 22 then x.pr.c else if i = 23 then x.pr.i
 else if i < 32 then x.want (i - 24) else if i = 33 then x.ep else if i = 34 then x.rd else if i = 107 then x.ro else if i = 108 then x.rr else 0
def Pw.eld (x : Pw) : Eld.Pk := ⟨x.num, x.rdy, frE x.f0, frE x.f1, frE x.f2⟩
def Pw.ok (x : Pw) : Bool := x.eld.may
def Pw.text (x : Pw) : ByteArray := x.eld.sealed
theorem Pw.eld_cells (x : Pw) : Eld.pkc x.eld = pwc x := by kernel_rfl
theorem frE_cells (f : Nat → En) : Eld.frc (frE f) = frc f := by kernel_rfl
def Pw.pk (x : Pw) (h : ∀ i, x.num i < 4294967296) : Pk := ⟨x.num, h, x.rdy, x.f0, x.f1, x.f2⟩
theorem Pw.pk_cells (x : Pw) (h : ∀ i, x.num i < 4294967296) : pkc (x.pk h) = pwc x := by kernel_rfl
theorem zero_cells : pkc ⟨fun _ => 0, fun _ => by decide, false, noFr, noFr, noFr⟩ = Eld.pkc Eld.Pk.zero := by kernel_rfl
theorem enc_ok (x : Pw) (h : ∀ i, x.num i < 4294967296) (w : World) : Calls Tryz.prog 104 #[.agg (pwc x)] w fun e w' =>
  e = .returned (if x.ok then .tuple #[.string x.text, .int .i64 0] else .tuple #[.string ⟨#[]⟩, .int .i64 52]) ∧ Below w.heap.size w w' := by
 rw [← x.eld_cells]
 exact Eld.encode_pk x.eld h w
theorem dec_ok (x : Pw) (h : ∀ i, x.num i < 4294967296) (hm : x.ok = true) (w : World) : Calls Tryz.prog 107 #[.string x.text] w fun e w' =>
  e = .returned (.tuple #[.agg (pkc (x.pk h)), .int .i64 0]) ∧ Below w.heap.size w w' := by
 rw [x.pk_cells, ← x.eld_cells]
 exact Eld.decode_sealed x.eld hm h w
theorem dec_no (s : ByteArray) (hs : s.size = 641) (hok : Eld.Crc.okL s.data.toList = false) (w : World) : Calls Tryz.prog 107 #[.string s] w fun e w' =>
  ∃ p, e = .returned (.tuple #[.agg (pkc p), .int .i64 51]) ∧ Below w.heap.size w w' :=
 (Eld.dec_sum s hs hok w).mono fun _ _ h => ⟨⟨fun _ => 0, fun _ => by decide, false, noFr, noFr, noFr⟩, by rw [zero_cells]; exact h.1, h.2⟩
theorem frck_ok (f : Nat → En) (w : World) : Calls Tryz.prog 61 #[.agg (frc f)] w fun e w' => e = .returned (.int .i64 (if frOk f then 0 else 30)) ∧ Below w.heap.size w w' := by
 rw [← frE_cells]
 exact Eld.frCheck (frE f) w
theorem text_size (x : Pw) : x.text.size = 641 := Eld.sealed_size x.eld
theorem text_ok (x : Pw) : Eld.Crc.okL x.text.data.toList = true := Eld.sealed_okL x.eld
end Go.Proofs.YthgfpdidilolgaaGreat
