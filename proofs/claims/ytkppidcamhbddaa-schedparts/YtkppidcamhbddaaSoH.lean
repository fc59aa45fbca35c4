/-
  slices.order2Ordered, medianOrdered, medianAdjacentOrdered, choosePivotOrdered of uint64: a place within the bounds.
  The bounds lie within the row.
-/
import Derived.Test.YtkppidcamhbddaaSoB
namespace Go.Proofs.Ytkppidcamhbddaa
set_option maxRecDepth 10000
open Go.RowKit
set_option linter.unusedVariables false

/- A counter. -/
def Cn (p s : Nat) (w : World) : Prop := Blk p #[.int .i64 (s : Int)] 3 w
theorem Cn.cell {p s : Nat} {w : World} (h : Cn p s w) : w.cell? ⟨p, 0, none⟩ = some (.int .i64 (s : Int)) := Blk.cell h 0 _ rfl
theorem Cn.free {p s : Nat} {w : World} (h : Cn p s w) : w.frozen? ⟨p, 0, none⟩ = false := Blk.free h 0
theorem Cn.set {p s : Nat} {w : World} (h : Cn p s w) (t : Nat) : Cn p t (w.setCell ⟨p, 0, none⟩ (.int .i64 (t : Int))) := by
  exact Blk.set h 0 (.int .i64 (t : Int))

set_option maxHeartbeats 4000000 in
theorem ord2_ok (g o cap a b p s : Nat) (T : TypeId) (R : List Value × List Value) (d : Array Int) (w : World) (hH : Sx g o T R d w) (ha : a < d.size) (hb : b < d.size) (hsz : d.size < 1152921504606846976) (hC : Cn p s w) (hs : s < 1000000) :
    Calls Try.prog 43 #[.slice (some ⟨g, o, none⟩) d.size cap, .int .i64 a, .int .i64 b, .pointer (some ⟨p, 0, none⟩)] w fun e w' =>
      ∃ x y s' : Nat, e = .returned (.tuple #[.int .i64 x, .int .i64 y]) ∧ ((x = a ∧ y = b) ∨ (x = b ∧ y = a)) ∧ s' ≤ s + 1 ∧ Cn p s' w' ∧ Kp [p] w w' := by
  obtain ⟨n, hn⟩ : ∃ n, d.size = n := ⟨_, rfl⟩
  rw [hn] at ha hb hsz ⊢
  obtain ⟨G, hG, hcw, hfw⟩ := hH.fam hn
  have c0 := hC.cell
  have f0 := hC.free
  have HC : Hid (Cn p s w) := hC
  clear hn hG hH hC
  go_enter Try.func43, Try.ntmps43
  go_wp2
  go_quiet (first | (go_at_call 32; refine Calls.quiet_of_same (less_ok _ _ _)))
  go_wp2
  · go_ret2
    refine ⟨b, a, s + 1, rfl, .inr ⟨rfl, rfl⟩, Nat.le_refl _, ?_, ?_⟩
    · exact Cn.set (w := w.drewN nq) HC.out (s + 1)
    · exact (kp_drewN _ w nq).trans (Kp.setCell p 0 _ _ (by simp))
  · go_ret2
    exact ⟨a, b, s, rfl, .inl ⟨rfl, rfl⟩, by omega, HC.out, kp_drewN _ w nq⟩

set_option maxHeartbeats 4000000 in
theorem med_ok (g o cap a b c p s : Nat) (T : TypeId) (R : List Value × List Value) (d : Array Int) (w : World) (hH : Sx g o T R d w) (ha : a < d.size) (hb : b < d.size) (hc : c < d.size) (hsz : d.size < 1152921504606846976) (hC : Cn p s w) (hg : p ≠ g) (hs : s < 10000) :
    Calls Try.prog 41 #[.slice (some ⟨g, o, none⟩) d.size cap, .int .i64 a, .int .i64 b, .int .i64 c, .pointer (some ⟨p, 0, none⟩)] w fun e w' =>
      ∃ x s' : Nat, e = .returned (.int .i64 x) ∧ (x = a ∨ x = b ∨ x = c) ∧ s' ≤ s + 3 ∧ Cn p s' w' ∧ Kp [p] w w' := by
  have h1 := ord2_ok g o cap a b p s T R d w hH ha hb hsz hC (by omega)
  have HH : Hid (Sx g o T R d w) := hH
  clear hH hC
  go_enter Try.func41, Try.ntmps41
  go_wp2_with fail
  refine h1.mono ?_
  rintro e w1 ⟨x1, y1, s1, rfl, hx1, hs1, hC1, hk1⟩
  have hH1 := HH.out.kp hk1 (by simpa using fun h => hg h.symm)
  have h2 := ord2_ok g o cap y1 c p s1 T R d w1 hH1 (by omega) hc hsz hC1 (by omega)
  clear h1 hC1
  go_wp2_with fail
  refine h2.mono ?_
  rintro e w2 ⟨x2, y2, s2, rfl, hx2, hs2, hC2, hk2⟩
  have hH2 := hH1.kp hk2 (by simpa using fun h => hg h.symm)
  have h3 := ord2_ok g o cap x1 x2 p s2 T R d w2 hH2 (by omega) (by omega) hsz hC2 (by omega)
  clear h2 hC2 hH1
  go_wp2_with fail
  refine h3.mono ?_
  rintro e w3 ⟨x3, y3, s3, rfl, hx3, hs3, hC3, hk3⟩
  clear h3 hH2
  go_wp2
  go_ret
  exact ⟨y3, s3, rfl, by omega, by omega, hC3, (hk1.trans hk2).trans hk3⟩

set_option maxHeartbeats 4000000 in
theorem meda_ok (g o cap a p s : Nat) (T : TypeId) (R : List Value × List Value) (d : Array Int) (w : World) (hH : Sx g o T R d w) (ha : a + 1 < d.size) (ha0 : 0 < a) (hsz : d.size < 1152921504606846976) (hC : Cn p s w) (hg : p ≠ g) (hs : s < 10000) :
    Calls Try.prog 40 #[.slice (some ⟨g, o, none⟩) d.size cap, .int .i64 a, .pointer (some ⟨p, 0, none⟩)] w fun e w' =>
      ∃ x s' : Nat, e = .returned (.int .i64 x) ∧ (a ≤ x + 1 ∧ x ≤ a + 1) ∧ s' ≤ s + 3 ∧ Cn p s' w' ∧ Kp [p] w w' := by
  have h1 := med_ok g o cap (a - 1) a (a + 1) p s T R d w hH (by omega) (by omega) ha hsz hC hg hs
  rw [show (((a - 1 : Nat) : Int)) = (a : Int) - 1 by omega, show (((a + 1 : Nat) : Int)) = (a : Int) + 1 by omega] at h1
  clear hH hC
  go_enter Try.func40, Try.ntmps40
  go_wp2_with fail
  refine h1.mono ?_
  rintro e w1 ⟨x1, s1, rfl, hx1, hs1, hC1, hk1⟩
  clear h1
  go_wp2
  go_ret
  exact ⟨x1, s1, rfl, by omega, hs1, hC1, hk1⟩

set_option maxHeartbeats 8000000 in
theorem piv_ok (g o cap a b : Nat) (T : TypeId) (R : List Value × List Value) (d : Array Int) (w : World) (hH : Sx g o T R d w) (hab : 12 < b - a) (hb : b ≤ d.size) (hsz : d.size < 1152921504606846976) :
    Calls Try.prog 29 #[.slice (some ⟨g, o, none⟩) d.size cap, .int .i64 a, .int .i64 b] w fun e w' =>
      ∃ p h : Nat, e = .returned (.tuple #[.int .i64 p, .int .i64 h]) ∧ a ≤ p ∧ p < b ∧ h ≤ 2 ∧ Below w.heap.size w w' := by
  obtain ⟨L, hL⟩ : ∃ L, L = b - a := ⟨_, rfl⟩
  have hLz : (b : Int) - (a : Int) = (L : Int) := by omega
  obtain ⟨q, hq⟩ : ∃ q, q = L / 4 := ⟨_, rfl⟩
  have hq1 : (L : Int).tdiv 4 = (q : Int) := by rw [Int.tdiv_eq_ediv_of_nonneg (by omega)]; omega
  have hq2 : (L : Int) / 4 = (q : Int) := by omega
  have hq3 : 4 * q ≤ L ∧ 3 ≤ q ∧ a + L = b := by omega
  have hL8 : (8 : Int) ≤ (L : Int) := by omega
  clear hq hL hab
  have hgl := hH.lt
  have hW := blk_new w #[.int .i64 0] 3
  have hBl := below_box w (.cells #[.int .i64 0] 3)
  have hHW : Sx g o T R d (w.alloc (.cells #[.int .i64 0] 3)) := hH.kp (S := []) (Kp.of_below hBl) (by simp)
  obtain ⟨P, hP⟩ : ∃ P, w.heap.size = P := ⟨_, rfl⟩
  rw [hP] at hgl hW hBl ⊢
  have hg : P ≠ g := by omega
  have HP : Hid (w.heap.size = P) := hP
  have HB : Hid (Below P w (w.alloc (.cells #[.int .i64 0] 3))) := hBl
  have HL : Hid (P < (w.alloc (.cells #[.int .i64 0] 3)).heap.size) := by show P < _; simp; omega
  clear hBl hH
  by_cases h50 : 50 ≤ L
  · have h50z : (50 : Int) ≤ (L : Int) := by omega
    go_enter Try.func29, Try.ntmps29
    go_wp2_with fail
    clear hP
    generalize w.alloc (.cells #[.int .i64 0] 3) = W at hW HB HL hHW ⊢
    have hC : Cn P 0 W := hW
    have h1 := meda_ok g o cap (a + q) P 0 T R d W hHW (by omega) (by omega) hsz hC hg (by omega)
    rw [show (((a + q : Nat) : Int)) = (a : Int) + (q : Int) by omega] at h1
    refine h1.mono ?_
    rintro e w1 ⟨x1, s1, rfl, hx1, hs1, hC1, hk1⟩
    have hH1 := hHW.kp hk1 (by simpa using fun h => hg h.symm)
    have h2 := meda_ok g o cap (a + q * 2) P s1 T R d w1 hH1 (by omega) (by omega) hsz hC1 hg (by omega)
    rw [show (((a + q * 2 : Nat) : Int)) = (a : Int) + (q : Int) * 2 by omega] at h2
    clear h1 hC hC1 hHW hW
    go_wp2_with fail
    refine h2.mono ?_
    rintro e w2 ⟨x2, s2, rfl, hx2, hs2, hC2, hk2⟩
    have hH2 := hH1.kp hk2 (by simpa using fun h => hg h.symm)
    have h3 := meda_ok g o cap (a + q * 3) P s2 T R d w2 hH2 (by omega) (by omega) hsz hC2 hg (by omega)
    rw [show (((a + q * 3 : Nat) : Int)) = (a : Int) + (q : Int) * 3 by omega] at h3
    clear h2 hC2 hH1
    go_wp2_with fail
    refine h3.mono ?_
    rintro e w3 ⟨x3, s3, rfl, hx3, hs3, hC3, hk3⟩
    have hH3 := hH2.kp hk3 (by simpa using fun h => hg h.symm)
    have h4 := med_ok g o cap x1 x2 x3 P s3 T R d w3 hH3 (by omega) (by omega) (by omega) hsz hC3 hg (by omega)
    clear h3 hC3 hH2
    go_wp2_with fail
    refine h4.mono ?_
    rintro e w4 ⟨x4, s4, rfl, hx4, hs4, hC4, hk4⟩
    have hBB : Hid (Below P w w4) := HB.out.trans ((((hk1.trans hk2).trans hk3).trans hk4).below1 (Nat.le_refl _) (Nat.le_of_lt HL.out))
    have c4 := hC4.cell
    clear h4 hH3 hC4
    have hx5 : a ≤ x4 ∧ x4 < b := by omega
    by_cases t0 : s4 = 0
    · subst t0
      go_wp2
      go_ret2
      exact ⟨x4, 1, rfl, hx5.1, hx5.2, by omega, hBB.out⟩
    · have t0b : ((s4 : Int) == 0) = false := beq_eq_false_iff_ne.2 (by omega)
      by_cases t1 : s4 = 12
      · subst t1
        go_wp2
        go_ret2
        exact ⟨x4, 2, rfl, hx5.1, hx5.2, by omega, hBB.out⟩
      · have t1b : ((s4 : Int) == 12) = false := beq_eq_false_iff_ne.2 (by omega)
        go_wp2
        go_ret2
        exact ⟨x4, 0, rfl, hx5.1, hx5.2, by omega, hBB.out⟩
  · have h50z : ¬ ((50 : Int) ≤ (L : Int)) := by omega
    go_enter Try.func29, Try.ntmps29
    go_wp2_with fail
    clear hP
    generalize w.alloc (.cells #[.int .i64 0] 3) = W at hW HB HL hHW ⊢
    have hC : Cn P 0 W := hW
    have h4 := med_ok g o cap (a + q) (a + q * 2) (a + q * 3) P 0 T R d W hHW (by omega) (by omega) (by omega) hsz hC hg (by omega)
    rw [show (((a + q : Nat) : Int)) = (a : Int) + (q : Int) by omega, show (((a + q * 2 : Nat) : Int)) = (a : Int) + (q : Int) * 2 by omega, show (((a + q * 3 : Nat) : Int)) = (a : Int) + (q : Int) * 3 by omega] at h4
    refine h4.mono ?_
    rintro e w4 ⟨x4, s4, rfl, hx4, hs4, hC4, hk4⟩
    have hBB : Hid (Below P w w4) := HB.out.trans (hk4.below1 (Nat.le_refl _) (Nat.le_of_lt HL.out))
    have c4 := hC4.cell
    clear h4 hHW hC4 hC hW
    have hx5 : a ≤ x4 ∧ x4 < b := by omega
    by_cases t0 : s4 = 0
    · subst t0
      go_wp2
      go_ret2
      exact ⟨x4, 1, rfl, hx5.1, hx5.2, by omega, hBB.out⟩
    · have t0b : ((s4 : Int) == 0) = false := beq_eq_false_iff_ne.2 (by omega)
      by_cases t1 : s4 = 12
      · subst t1
        go_wp2
        go_ret2
        exact ⟨x4, 2, rfl, hx5.1, hx5.2, by omega, hBB.out⟩
      · have t1b : ((s4 : Int) == 12) = false := beq_eq_false_iff_ne.2 (by omega)
        go_wp2
        go_ret2
        exact ⟨x4, 0, rfl, hx5.1, hx5.2, by omega, hBB.out⟩

end Go.Proofs.Ytkppidcamhbddaa
