/-
  math/bits.Len of small numbers; the library's xorshift: some number; nextPowerOfTwo; slices.breakPatternsOrdered of uint64.
  Each theorem says its own conditions.
-/
import Derived.Test.YtkppidcamhbddaaSoH
import Derived.Lib.Tables
import Derived.Lib.BitFns
import Derived.Laws.Closers25b
import Derived.Laws.Bits64b
namespace Go.Proofs.Ytkppidcamhbddaa
set_option maxRecDepth 10000
open Go.RowKit
set_option linter.unusedVariables false

/- A byte of the library's table. -/
theorem idx_tab {P : Program} {ops : Array Oper} {rest : List Oper} {op : Oper} {a : Act} {w : World} {Q : Exit → Act → World → Prop} (hgd : op.guard = none) (t : TypeId) (S : ByteArray) (y : Operand) (ho : op.op = .index t (.const (.string S)) y)
    (hS : S = Lib.len8tab) (ht : P.underlying t = some .string) {k : IntKind} {i : Int} (hy : a.eval y = .int k i) (h0 : 0 ≤ i) (h1 : i ≤ 255) (hK : wpList P ops Q rest (a.put op.dst (.int .u8 (Lib.len8 i))) w) : wpList P ops Q (op :: rest) a w := by
  refine wpList_plain hgd fun K hK' => ?_
  have hr := Lib.run_index_len8tab (P := P) w t k i ht h0 h1
  have hk2 := hK' _ _ hK
  unfold Oper.wp execOp
  have hc : a.eval (.const (.string Lib.len8tab)) = .string Lib.len8tab := rfl
  subst hS
  simp only [ho, hc, hy, Sem.run_bind, hr, Result.andThen_ok]
  exact hk2
set_option maxRecDepth 100000 in
set_option maxHeartbeats 16000000 in
theorem len64_ok (x : Nat) (hx : x < 4611686018427387904) (w : World) : Calls Try.prog 36 #[.int .u64 (x : Int)] w fun e w' => e = .returned (.int .i64 (Lib.bitLen x)) ∧ w' = w := by
  go_enter Try.func36, Try.ntmps36
  by_cases h0 : 4294967296 ≤ x
  · have g0 : (4294967296 : Int) ≤ (x : Int) := by omega
    obtain ⟨x1, hx1⟩ : ∃ y, y = x / 4294967296 := ⟨_, rfl⟩
    have q0 : (x : Int) / 4294967296 = (x1 : Int) := by omega
    have r0 : x1 < 1073741824 := by omega
    have E1 : Hid (Lib.bitLen x = 32 + Lib.bitLen x1) := by show _ = _; rw [hx1]; exact Lib.bitLen_shift32 x (by omega) (by omega)
    clear hx1
    by_cases h1 : 65536 ≤ x1
    · have g1 : (65536 : Int) ≤ (x1 : Int) := by omega
      obtain ⟨x2, hx2⟩ : ∃ y, y = x1 / 65536 := ⟨_, rfl⟩
      have q1 : (x1 : Int) / 65536 = (x2 : Int) := by omega
      have r1 : x2 < 65536 := by omega
      have E2 : Hid (Lib.bitLen x1 = 16 + Lib.bitLen x2) := by show _ = _; rw [hx2]; exact Lib.bitLen_shift16 x1 (by omega) (by omega)
      clear hx2
      by_cases h2 : 256 ≤ x2
      · have g2 : (256 : Int) ≤ (x2 : Int) := by omega
        obtain ⟨x3, hx3⟩ : ∃ y, y = x2 / 256 := ⟨_, rfl⟩
        have q2 : (x2 : Int) / 256 = (x3 : Int) := by omega
        have r2 : x3 < 256 := by omega
        have E3 : Hid (Lib.bitLen x2 = 8 + Lib.bitLen x3) := by show _ = _; rw [hx3]; exact Lib.bitLen_shift8 x2 (by omega) (by omega)
        clear hx3
        have hm : (x3 : Int) % 256 = (x3 : Int) := by omega
        have hv : Lib.len8 (x3 : Int) = (Lib.bitLen x3 : Int) := Lib.len8_of (x3 : Int) (by omega) (by omega)
        have hb := Lib.bitLen_le8' (x3 : Int) (by omega) (by omega)
        rw [Int.toNat_natCast] at hb
        have he : Lib.bitLen x = 32 + (16 + (8 + Lib.bitLen x3)) := by rw [E1.out, E2.out, E3.out]
        rw [he]
        clear he
        go_wp2_with (refine idx_tab rfl 9 _ _ rfl (by kernel_rfl) Try.underlying9 rfl (by omega) (by omega) ?_)
        go_ret
        exact ⟨by simp <;> omega, rfl⟩
      · have g2 : ¬ ((256 : Int) ≤ (x2 : Int)) := by omega
        have hm : (x2 : Int) % 256 = (x2 : Int) := by omega
        have hv : Lib.len8 (x2 : Int) = (Lib.bitLen x2 : Int) := Lib.len8_of (x2 : Int) (by omega) (by omega)
        have hb := Lib.bitLen_le8' (x2 : Int) (by omega) (by omega)
        rw [Int.toNat_natCast] at hb
        have he : Lib.bitLen x = 32 + (16 + Lib.bitLen x2) := by rw [E1.out, E2.out]
        rw [he]
        clear he
        go_wp2_with (refine idx_tab rfl 9 _ _ rfl (by kernel_rfl) Try.underlying9 rfl (by omega) (by omega) ?_)
        go_ret
        exact ⟨by simp <;> omega, rfl⟩
    · have g1 : ¬ ((65536 : Int) ≤ (x1 : Int)) := by omega
      by_cases h2 : 256 ≤ x1
      · have g2 : (256 : Int) ≤ (x1 : Int) := by omega
        obtain ⟨x3, hx3⟩ : ∃ y, y = x1 / 256 := ⟨_, rfl⟩
        have q2 : (x1 : Int) / 256 = (x3 : Int) := by omega
        have r2 : x3 < 256 := by omega
        have E2 : Hid (Lib.bitLen x1 = 8 + Lib.bitLen x3) := by show _ = _; rw [hx3]; exact Lib.bitLen_shift8 x1 (by omega) (by omega)
        clear hx3
        have hm : (x3 : Int) % 256 = (x3 : Int) := by omega
        have hv : Lib.len8 (x3 : Int) = (Lib.bitLen x3 : Int) := Lib.len8_of (x3 : Int) (by omega) (by omega)
        have hb := Lib.bitLen_le8' (x3 : Int) (by omega) (by omega)
        rw [Int.toNat_natCast] at hb
        have he : Lib.bitLen x = 32 + (8 + Lib.bitLen x3) := by rw [E1.out, E2.out]
        rw [he]
        clear he
        go_wp2_with (refine idx_tab rfl 9 _ _ rfl (by kernel_rfl) Try.underlying9 rfl (by omega) (by omega) ?_)
        go_ret
        exact ⟨by simp <;> omega, rfl⟩
      · have g2 : ¬ ((256 : Int) ≤ (x1 : Int)) := by omega
        have hm : (x1 : Int) % 256 = (x1 : Int) := by omega
        have hv : Lib.len8 (x1 : Int) = (Lib.bitLen x1 : Int) := Lib.len8_of (x1 : Int) (by omega) (by omega)
        have hb := Lib.bitLen_le8' (x1 : Int) (by omega) (by omega)
        rw [Int.toNat_natCast] at hb
        have he : Lib.bitLen x = 32 + Lib.bitLen x1 := by rw [E1.out]
        rw [he]
        clear he
        go_wp2_with (refine idx_tab rfl 9 _ _ rfl (by kernel_rfl) Try.underlying9 rfl (by omega) (by omega) ?_)
        go_ret
        exact ⟨by simp <;> omega, rfl⟩
  · have g0 : ¬ ((4294967296 : Int) ≤ (x : Int)) := by omega
    by_cases h1 : 65536 ≤ x
    · have g1 : (65536 : Int) ≤ (x : Int) := by omega
      obtain ⟨x2, hx2⟩ : ∃ y, y = x / 65536 := ⟨_, rfl⟩
      have q1 : (x : Int) / 65536 = (x2 : Int) := by omega
      have r1 : x2 < 65536 := by omega
      have E1 : Hid (Lib.bitLen x = 16 + Lib.bitLen x2) := by show _ = _; rw [hx2]; exact Lib.bitLen_shift16 x (by omega) (by omega)
      clear hx2
      by_cases h2 : 256 ≤ x2
      · have g2 : (256 : Int) ≤ (x2 : Int) := by omega
        obtain ⟨x3, hx3⟩ : ∃ y, y = x2 / 256 := ⟨_, rfl⟩
        have q2 : (x2 : Int) / 256 = (x3 : Int) := by omega
        have r2 : x3 < 256 := by omega
        have E2 : Hid (Lib.bitLen x2 = 8 + Lib.bitLen x3) := by show _ = _; rw [hx3]; exact Lib.bitLen_shift8 x2 (by omega) (by omega)
        clear hx3
        have hm : (x3 : Int) % 256 = (x3 : Int) := by omega
        have hv : Lib.len8 (x3 : Int) = (Lib.bitLen x3 : Int) := Lib.len8_of (x3 : Int) (by omega) (by omega)
        have hb := Lib.bitLen_le8' (x3 : Int) (by omega) (by omega)
        rw [Int.toNat_natCast] at hb
        have he : Lib.bitLen x = 16 + (8 + Lib.bitLen x3) := by rw [E1.out, E2.out]
        rw [he]
        clear he
        go_wp2_with (refine idx_tab rfl 9 _ _ rfl (by kernel_rfl) Try.underlying9 rfl (by omega) (by omega) ?_)
        go_ret
        exact ⟨by simp <;> omega, rfl⟩
      · have g2 : ¬ ((256 : Int) ≤ (x2 : Int)) := by omega
        have hm : (x2 : Int) % 256 = (x2 : Int) := by omega
        have hv : Lib.len8 (x2 : Int) = (Lib.bitLen x2 : Int) := Lib.len8_of (x2 : Int) (by omega) (by omega)
        have hb := Lib.bitLen_le8' (x2 : Int) (by omega) (by omega)
        rw [Int.toNat_natCast] at hb
        have he : Lib.bitLen x = 16 + Lib.bitLen x2 := by rw [E1.out]
        rw [he]
        clear he
        go_wp2_with (refine idx_tab rfl 9 _ _ rfl (by kernel_rfl) Try.underlying9 rfl (by omega) (by omega) ?_)
        go_ret
        exact ⟨by simp <;> omega, rfl⟩
    · have g1 : ¬ ((65536 : Int) ≤ (x : Int)) := by omega
      by_cases h2 : 256 ≤ x
      · have g2 : (256 : Int) ≤ (x : Int) := by omega
        obtain ⟨x3, hx3⟩ : ∃ y, y = x / 256 := ⟨_, rfl⟩
        have q2 : (x : Int) / 256 = (x3 : Int) := by omega
        have r2 : x3 < 256 := by omega
        have E1 : Hid (Lib.bitLen x = 8 + Lib.bitLen x3) := by show _ = _; rw [hx3]; exact Lib.bitLen_shift8 x (by omega) (by omega)
        clear hx3
        have hm : (x3 : Int) % 256 = (x3 : Int) := by omega
        have hv : Lib.len8 (x3 : Int) = (Lib.bitLen x3 : Int) := Lib.len8_of (x3 : Int) (by omega) (by omega)
        have hb := Lib.bitLen_le8' (x3 : Int) (by omega) (by omega)
        rw [Int.toNat_natCast] at hb
        have he : Lib.bitLen x = 8 + Lib.bitLen x3 := by rw [E1.out]
        rw [he]
        clear he
        go_wp2_with (refine idx_tab rfl 9 _ _ rfl (by kernel_rfl) Try.underlying9 rfl (by omega) (by omega) ?_)
        go_ret
        exact ⟨by simp <;> omega, rfl⟩
      · have g2 : ¬ ((256 : Int) ≤ (x : Int)) := by omega
        have hm : (x : Int) % 256 = (x : Int) := by omega
        have hv : Lib.len8 (x : Int) = (Lib.bitLen x : Int) := Lib.len8_of (x : Int) (by omega) (by omega)
        have hb := Lib.bitLen_le8' (x : Int) (by omega) (by omega)
        rw [Int.toNat_natCast] at hb
        go_wp2_with (refine idx_tab rfl 9 _ _ rfl (by kernel_rfl) Try.underlying9 rfl (by omega) (by omega) ?_)
        go_ret
        exact ⟨by simp <;> omega, rfl⟩

/- How long a number is, by powers of two. -/
theorem bitLen_two (n : Nat) (h0 : 0 < n) (hn : n < 4611686018427387904) : ∃ k, Lib.bitLen n = k + 1 ∧ 2 ^ k ≤ n ∧ n < 2 ^ (k + 1) ∧ k ≤ 61 := by
  have h1 : 2 ^ n.log2 ≤ n := Nat.log2_self_le (by omega)
  have h2 : n < 2 ^ (n.log2 + 1) := Nat.lt_log2_self
  have h4 : n / 2 ^ n.log2 = 1 := by
    have hp : 0 < 2 ^ n.log2 := Nat.pow_pos (by omega)
    have ha : 1 ≤ n / 2 ^ n.log2 := (Nat.le_div_iff_mul_le hp).2 (by omega)
    have hb : n / 2 ^ n.log2 < 2 := (Nat.div_lt_iff_lt_mul hp).2 (by rw [Nat.pow_succ] at h2; omega)
    omega
  have h3 : Lib.bitLen n = n.log2 + Lib.bitLen (n / 2 ^ n.log2) := Lib.bitLen_shift n.log2 n h1 (by omega)
  refine ⟨n.log2, ?_, h1, h2, ?_⟩
  · rw [h3, h4]; rfl
  · have : n.log2 < 62 := (Nat.log2_lt (by omega)).2 (by omega)
    omega
theorem len_ok (x : Nat) (hx : x < 4611686018427387904) (w : World) : Calls Try.prog 25 #[.int .u64 (x : Int)] w fun e w' => e = .returned (.int .i64 (Lib.bitLen x)) ∧ w' = w := by
  have h1 := len64_ok x hx w
  go_enter Try.func25, Try.ntmps25
  go_wp2_with (refine h1.mono ?_; rintro e w1 ⟨rfl, rfl⟩)
  go_ret
  exact ⟨rfl, rfl⟩
theorem pow_ok (n : Nat) (h0 : 0 < n) (hn : n < 1152921504606846976) (w : World) : Calls Try.prog 38 #[.int .i64 (n : Int)] w fun e w' => ∃ M : Nat, e = .returned (.int .u64 (M : Int)) ∧ n < M ∧ M ≤ 2 * n ∧ w' = w := by
  obtain ⟨k, hk, h1, h2, h3⟩ := bitLen_two n h0 (by omega)
  have hC := len_ok n (by omega) w
  rw [hk] at hC
  have HN : Hid (2 ^ k ≤ n ∧ n < 2 ^ (k + 1)) := ⟨h1, h2⟩
  have hu : IntKind.u64.wrap (n : Int) = (n : Int) := by rw [IntKind.wrap_u64]; omega
  clear h1 h2 hk
  go_enter Try.func38, Try.ntmps38
  go_wp2_with (refine hC.mono ?_; rintro e w1 ⟨rfl, rfl⟩)
  go_ret
  have e : IntKind.u64.wrap ((2 : Int) ^ (k + 1)) = ((2 ^ (k + 1) : Nat) : Int) := by
    have h4 : 2 ^ (k + 1) ≤ 2 ^ 62 := Nat.pow_le_pow_right (by omega) (by omega)
    rw [IntKind.wrap_u64, show ((2 : Int) ^ (k + 1)) = ((2 ^ (k + 1) : Nat) : Int) by push_cast; rfl]
    generalize 2 ^ (k + 1) = M at h4 ⊢
    omega
  have h := HN.out
  exact ⟨2 ^ (k + 1), by show Ending.returned (Value.int _ (IntKind.u64.wrap _)) = _; rw [e], h.2, by rw [Nat.pow_succ]; omega, rfl⟩

theorem xnat (a b : Int) : ∃ Y : Nat, bits .xor .u64 a b = (Y : Int) ∧ Y < 18446744073709551616 := by
  have h1 := bits_lo_u64 .xor a b
  have h2 := bits_hi_u64 .xor a b
  exact ⟨(bits .xor .u64 a b).toNat, by omega, by omega⟩
set_option maxHeartbeats 4000000 in
/- The library's generator: some number; its variable holds it. -/
theorem next_ok (p X : Nat) (hX : X < 18446744073709551616) (w : World) (hC : Blk p #[.int .u64 (X : Int)] 62 w) : Calls Try.prog 39 #[.pointer (some ⟨p, 0, none⟩)] w fun e w' =>
    ∃ Y : Nat, Y < 18446744073709551616 ∧ e = .returned (.int .u64 (Y : Int)) ∧ Blk p #[.int .u64 (Y : Int)] 62 w' ∧ Kp [p] w w' := by
  have c0 := hC.cell 0 _ rfl
  have f0 := hC.free 0
  go_enter Try.func39, Try.ntmps39
  have hk : Hid (Kp [p] w w) := Kp.refl _ _
  have HC : Hid (Blk p #[.int .u64 (X : Int)] 62 w) := hC
  clear hC
  go_wp2_with fail
  go_region
  obtain ⟨Y1, e1, hY1⟩ := xnat (X : Int) (IntKind.u64.wrap ((X : Int) * 8192))
  rw [e1]
  have b1 : Blk p #[.int .u64 (Y1 : Int)] 62 (w.setCell ⟨p, 0, none⟩ (.int .u64 (Y1 : Int))).drew := HC.out.set 0 _
  have k1 : Kp [p] w (w.setCell ⟨p, 0, none⟩ (.int .u64 (Y1 : Int))).drew := (hk.out.trans (Kp.setCell p 0 _ _ (by simp))).trans (Kp.drew _ _)
  clear hk HC c0 f0 e1
  go_wp2_with fail
  generalize (w.setCell ⟨p, 0, none⟩ (.int .u64 (Y1 : Int))).drew = W1 at b1 k1 ⊢
  have c0 := b1.cell 0 _ rfl
  have f0 := b1.free 0
  have hk : Hid (Kp [p] w W1) := k1
  have HC : Hid (Blk p #[.int .u64 (Y1 : Int)] 62 W1) := b1
  clear b1 k1
  go_region
  obtain ⟨Y2, e2, hY2⟩ := xnat (Y1 : Int) ((Y1 : Int) / 128)
  rw [e2]
  have b2 : Blk p #[.int .u64 (Y2 : Int)] 62 (W1.setCell ⟨p, 0, none⟩ (.int .u64 (Y2 : Int))).drew := HC.out.set 0 _
  have k2 : Kp [p] w (W1.setCell ⟨p, 0, none⟩ (.int .u64 (Y2 : Int))).drew := (hk.out.trans (Kp.setCell p 0 _ _ (by simp))).trans (Kp.drew _ _)
  clear hk HC c0 f0 e2
  go_wp2_with fail
  generalize (W1.setCell ⟨p, 0, none⟩ (.int .u64 (Y2 : Int))).drew = W2 at b2 k2 ⊢
  have c0 := b2.cell 0 _ rfl
  have f0 := b2.free 0
  have hk : Hid (Kp [p] w W2) := k2
  have HC : Hid (Blk p #[.int .u64 (Y2 : Int)] 62 W2) := b2
  clear b2 k2
  go_region
  obtain ⟨Y3, e3, hY3⟩ := xnat (Y2 : Int) (IntKind.u64.wrap ((Y2 : Int) * 131072))
  rw [e3]
  have b3 : Blk p #[.int .u64 (Y3 : Int)] 62 (W2.setCell ⟨p, 0, none⟩ (.int .u64 (Y3 : Int))).drew := HC.out.set 0 _
  have k3 : Kp [p] w (W2.setCell ⟨p, 0, none⟩ (.int .u64 (Y3 : Int))).drew := (hk.out.trans (Kp.setCell p 0 _ _ (by simp))).trans (Kp.drew _ _)
  clear hk HC c0 f0 e3
  generalize (W2.setCell ⟨p, 0, none⟩ (.int .u64 (Y3 : Int))).drew = W3 at b3 k3 ⊢
  have c0 := b3.cell 0 _ rfl
  go_wp2
  go_ret
  exact ⟨Y3, hY3, rfl, b3, k3⟩

end Go.Proofs.Ytkppidcamhbddaa
