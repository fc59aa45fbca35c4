/-
  A clock one tick later, and a daemon that is heard: what the code answers, and what the document says.
  No condition on the code's; the document's tick is of a clock that a uint32 holds.
-/
import Derived.Test.YthgmecgknhphmaaBase
namespace Go.Proofs.Ythgmecgknhphmaa
set_option maxRecDepth 10000
open Go.RowKit Go.Sort

def tickB (b : Bt) : Bt := ⟨if b.now < 4294967295 then b.now + 1 else b.now, b.hd, b.inc⟩
def hearsB (b : Bt) (i : Int) (n : Nat) : Bool := decide (0 ≤ i ∧ i < 8 ∧ n ≠ 0 ∧ b.now ≠ 0 ∧ b.inc i.toNat ≤ n)
def hearB (b : Bt) (i : Int) (n : Nat) : Bt := if hearsB b i n = true then ⟨b.now, put8 b.hd i.toNat b.now, put8 b.inc i.toNat n⟩ else b

set_option maxHeartbeats 1000000 in
theorem tick_ok (b : Bt) (w : World) : Calls Try.prog 29 #[.agg b.arr] w fun e w' => e = .returned (.agg (tickB b).arr) ∧ Below w.heap.size w w' := by
  obtain ⟨a1, a2, hB⟩ := two_blk (T0 := 25) (T1 := 25) (C0 := b.arr) (C1 := Bt.zero.arr) (w := w) rfl
  have hpa : putAt Bt.zero.arr 0 (tickB b).arr.toList = (tickB b).arr := putAt_all _ _ rfl
  obtain ⟨D, hD⟩ : ∃ D, tickB b = D := ⟨_, rfl⟩
  have HD : Hid (tickB b = D) := hD
  rw [hD] at hpa ⊢
  clear hD
  go_enter Try.func29, Try.ntmps29
  go_upto_region 1 with (refine alloc_zero zeroBt rfl rfl ?_)
  generalize (w.alloc (Obj.cells b.arr 25)).alloc (Obj.cells Bt.zero.arr 25) = W at a1 a2 hB ⊢
  have c0 := a1.cell 0 _ b.get_now
  by_cases h : b.now < 4294967295
  · have h1 : decide ((b.now : Int) < 4294967295) = true := by simp; omega
    have h2 : IntKind.u32.wrap ((b.now : Int) + 1) = (b.now : Int) + 1 := by rw [IntKind.wrap_u32]; omega
    have hst : b.arr.setIfInBounds 0 (.int .u32 ((b.now : Int) + 1)) = D.arr := by
      rw [← HD.out, show tickB b = ⟨b.now + 1, b.hd, b.inc⟩ by simp [tickB, h], ← Bt.set_now]; rfl
    clear h HD
    go_wp2_with (first | (refine store_one rfl 22 _ _ rfl (off := 0) (.int .u32 ((b.now : Int) + 1)) a1 rfl rfl rfl rfl sizeU32 (by rw [Bt.arr_size]; omega) ?_; intro w2 b2 k2; rw [hst] at b2; have e2 := a2.kp1 k2 (by omega); have hB2 : Below w.heap.size w w2 := hB.trans (k2.below1 (by omega) hB.size)) | refine load_blk rfl 25 _ rfl b2 rfl Try.underlying25 rfl D.size ?_ | (refine store_part rfl 25 _ _ rfl (off := 0) (cells := D.arr) e2 rfl rfl D.size (by simp [Bt.arr_size]) D.arr_one ?_; intro w9 b9 k9; rw [hpa] at b9; have hB9 : Below w.heap.size w w9 := hB2.trans (k9.below1 (by omega) hB2.size)))
    refine bodyPost_ret (w := w9) (v := .agg D.arr) (ret_one rfl rfl b9 Try.underlying25 rfl D.size) rfl ⟨rfl, hB9⟩
  · have h1 : decide ((b.now : Int) < 4294967295) = false := by simp; omega
    have hD : D = b := by rw [← HD.out]; simp [tickB, h]
    subst hD
    clear h HD
    go_wp2_with (first | refine load_blk rfl 25 _ rfl a1 rfl Try.underlying25 rfl D.size ?_ | (refine store_part rfl 25 _ _ rfl (off := 0) (cells := D.arr) a2 rfl rfl D.size (by simp [Bt.arr_size]) D.arr_one ?_; intro w9 b9 k9; rw [hpa] at b9; have hB9 : Below w.heap.size w w9 := hB.trans (k9.below1 (by omega) hB.size)))
    refine bodyPost_ret (w := w9) (v := .agg D.arr) (ret_one rfl rfl b9 Try.underlying25 rfl D.size) rfl ⟨rfl, hB9⟩

set_option maxHeartbeats 1000000 in
theorem hear_ok (b : Bt) (i : Int) (n : Nat) (w : World) : Calls Try.prog 47 #[.agg b.arr, .int .i64 i, .int .u32 (n : Int)] w fun e w' => e = .returned (.tuple #[.agg (hearB b i n).arr, .bool (hearsB b i n)]) ∧ Below w.heap.size w w' := by
  obtain ⟨a1, a2, hB⟩ := two_blk (T0 := 25) (T1 := 25) (C0 := b.arr) (C1 := Bt.zero.arr) (w := w) rfl
  have hpa : putAt Bt.zero.arr 0 (hearB b i n).arr.toList = (hearB b i n).arr := putAt_all _ _ rfl
  obtain ⟨D, hD⟩ : ∃ D, hearB b i n = D := ⟨_, rfl⟩
  have HD : Hid (hearB b i n = D) := hD
  obtain ⟨O, hO⟩ : ∃ O, hearsB b i n = O := ⟨_, rfl⟩
  have HO : Hid (hearsB b i n = O) := hO
  rw [hD] at hpa ⊢
  rw [hO]
  clear hD hO
  go_enter Try.func47, Try.ntmps47
  go_upto_region 1 with (refine alloc_zero zeroBt rfl rfl ?_)
  generalize (w.alloc (Obj.cells b.arr 25)).alloc (Obj.cells Bt.zero.arr 25) = W at a1 a2 hB ⊢
  have c0 := a1.cell 0 _ b.get_now
  by_cases h0 : 0 ≤ i
  · by_cases h1 : i < 8
    · obtain ⟨k, rfl⟩ : ∃ k : Nat, i = (k : Int) := ⟨i.toNat, by omega⟩
      have c1 := a1.cell (9 + k) _ (b.get_inc k (by omega))
      have g0 : decide ((k : Int) < 0) = false := by simp
      have g1 : decide ((8 : Int) ≤ (k : Int)) = false := by simp; omega
      have g2 : decide ((7 : Int) < (k : Int)) = false := by simp; omega
      by_cases h2 : n = 0
      · subst h2
        obtain rfl : O = false := by rw [← HO.out]; simp [hearsB]
        have hD : D = b := by rw [← HD.out, hearB, HO.out]; rfl
        subst hD
        clear HD HO
        go_wp2_with (first | refine load_blk rfl 25 _ rfl a1 rfl Try.underlying25 rfl D.size ?_ | (refine store_part rfl 25 _ _ rfl (off := 0) (cells := D.arr) a2 rfl rfl D.size (by simp [Bt.arr_size]) D.arr_one ?_; intro w9 b9 k9; rw [hpa] at b9; have hB9 : Below w.heap.size w w9 := hB.trans (k9.below1 (by omega) hB.size)))
        refine bodyPost_ret (w := w9) (v := .tuple #[.agg D.arr, .bool false]) (ret_two rfl rfl b9 Try.underlying25 rfl D.size rfl) rfl ⟨rfl, hB9⟩
      · have h2' : ((n : Int) == 0) = false := by rw [beq_eq_false_iff_ne]; omega
        by_cases h3 : b.now = 0
        · have c0' := c0
          rw [h3] at c0'
          clear c0
          obtain rfl : O = false := by rw [← HO.out]; simp [hearsB, h3]
          have hD : D = b := by rw [← HD.out, hearB, HO.out]; rfl
          subst hD
          clear HD HO
          go_wp2_with (first | refine load_blk rfl 25 _ rfl a1 rfl Try.underlying25 rfl D.size ?_ | (refine store_part rfl 25 _ _ rfl (off := 0) (cells := D.arr) a2 rfl rfl D.size (by simp [Bt.arr_size]) D.arr_one ?_; intro w9 b9 k9; rw [hpa] at b9; have hB9 : Below w.heap.size w w9 := hB.trans (k9.below1 (by omega) hB.size)))
          refine bodyPost_ret (w := w9) (v := .tuple #[.agg D.arr, .bool false]) (ret_two rfl rfl b9 Try.underlying25 rfl D.size rfl) rfl ⟨rfl, hB9⟩
        · have h3' : ((b.now : Int) == 0) = false := by rw [beq_eq_false_iff_ne]; omega
          by_cases h4 : n < b.inc k
          · have h4' : (n : Int) < (b.inc k : Int) := by omega
            obtain rfl : O = false := by rw [← HO.out]; simp [hearsB]; omega
            have hD : D = b := by rw [← HD.out, hearB, HO.out]; rfl
            subst hD
            clear HD HO
            go_wp2_with (first | refine load_blk rfl 25 _ rfl a1 rfl Try.underlying25 rfl D.size ?_ | (refine store_part rfl 25 _ _ rfl (off := 0) (cells := D.arr) a2 rfl rfl D.size (by simp [Bt.arr_size]) D.arr_one ?_; intro w9 b9 k9; rw [hpa] at b9; have hB9 : Below w.heap.size w w9 := hB.trans (k9.below1 (by omega) hB.size)))
            refine bodyPost_ret (w := w9) (v := .tuple #[.agg D.arr, .bool false]) (ret_two rfl rfl b9 Try.underlying25 rfl D.size rfl) rfl ⟨rfl, hB9⟩
          · have h4' : ¬ (n : Int) < (b.inc k : Int) := by omega
            obtain rfl : O = true := by rw [← HO.out]; simp [hearsB, h2, h3]; omega
            have hD : ⟨b.now, put8 b.hd k b.now, put8 b.inc k n⟩ = D := by rw [← HD.out, hearB, HO.out]; rfl
            have s1 := b.set_hd k b.now (by omega)
            have s2 := (Bt.mk b.now (put8 b.hd k b.now) b.inc).set_inc k n (by omega)
            rw [show Bt.mk (Bt.mk b.now (put8 b.hd k b.now) b.inc).now (Bt.mk b.now (put8 b.hd k b.now) b.inc).hd (put8 (Bt.mk b.now (put8 b.hd k b.now) b.inc).inc k n) = D from hD] at s2
            obtain ⟨E, hE⟩ : ∃ E, Bt.mk b.now (put8 b.hd k b.now) b.inc = E := ⟨_, rfl⟩
            rw [hE] at s1 s2
            clear HD HO hD hE h2 h3 h4
            go_wp2_with (first | (refine store_one rfl 22 _ _ rfl (off := 1 + k) (.int .u32 (b.now : Int)) a1 rfl rfl rfl rfl sizeU32 (by rw [Bt.arr_size]; omega) ?_; intro w2 b2 k2; rw [s1] at b2; have e2 := a2.kp1 k2 (by omega); have hB2 : Below w.heap.size w w2 := hB.trans (k2.below1 (by omega) hB.size)) | (refine store_one rfl 22 _ _ rfl (off := 9 + k) (.int .u32 (n : Int)) b2 rfl rfl rfl rfl sizeU32 (by rw [Bt.arr_size]; omega) ?_; intro w3 b3 k3; rw [s2] at b3; have e3 := e2.kp1 k3 (by omega); have hB3 : Below w.heap.size w w3 := hB2.trans (k3.below1 (by omega) hB2.size)) | refine load_blk rfl 25 _ rfl b3 rfl Try.underlying25 rfl D.size ?_ | (refine store_part rfl 25 _ _ rfl (off := 0) (cells := D.arr) e3 rfl rfl D.size (by simp [Bt.arr_size]) D.arr_one ?_; intro w9 b9 k9; rw [hpa] at b9; have hB9 : Below w.heap.size w w9 := hB3.trans (k9.below1 (by omega) hB3.size)))
            refine bodyPost_ret (w := w9) (v := .tuple #[.agg D.arr, .bool true]) (ret_two rfl rfl b9 Try.underlying25 rfl D.size rfl) rfl ⟨rfl, hB9⟩
    · have h1' : decide ((8 : Int) ≤ i) = true := by simp; omega
      have h7' : decide ((7 : Int) < i) = true := by simp; omega
      have h0' : decide (i < 0) = false := by simp; omega
      obtain rfl : O = false := by rw [← HO.out]; simp [hearsB, h1]
      have hD : D = b := by rw [← HD.out, hearB, HO.out]; rfl
      subst hD
      clear HD HO
      go_wp2_with (first | refine load_blk rfl 25 _ rfl a1 rfl Try.underlying25 rfl D.size ?_ | (refine store_part rfl 25 _ _ rfl (off := 0) (cells := D.arr) a2 rfl rfl D.size (by simp [Bt.arr_size]) D.arr_one ?_; intro w9 b9 k9; rw [hpa] at b9; have hB9 : Below w.heap.size w w9 := hB.trans (k9.below1 (by omega) hB.size)))
      refine bodyPost_ret (w := w9) (v := .tuple #[.agg D.arr, .bool false]) (ret_two rfl rfl b9 Try.underlying25 rfl D.size rfl) rfl ⟨rfl, hB9⟩
  · have h0' : i < 0 := by omega
    obtain rfl : O = false := by rw [← HO.out]; simp [hearsB, h0]
    have hD : D = b := by rw [← HD.out, hearB, HO.out]; rfl
    subst hD
    clear HD HO
    go_wp2_with (first | refine load_blk rfl 25 _ rfl a1 rfl Try.underlying25 rfl D.size ?_ | (refine store_part rfl 25 _ _ rfl (off := 0) (cells := D.arr) a2 rfl rfl D.size (by simp [Bt.arr_size]) D.arr_one ?_; intro w9 b9 k9; rw [hpa] at b9; have hB9 : Below w.heap.size w w9 := hB.trans (k9.below1 (by omega) hB.size)))
    refine bodyPost_ret (w := w9) (v := .tuple #[.agg D.arr, .bool false]) (ret_two rfl rfl b9 Try.underlying25 rfl D.size rfl) rfl ⟨rfl, hB9⟩

end Go.Proofs.Ythgmecgknhphmaa
