/-
  The program's away and Turn: what each call answers.
  The sessions fit.
-/
import Derived.Test.YtkppidcamhbddaaScA
import Derived.Test.YtkppidcamhbddaaScN
import Derived.Test.YtkppidcamhbddaaLr
namespace Go.Proofs.Ytkppidcamhbddaa
set_option maxRecDepth 10000
open Go.RowKit Go.Sort
set_option linter.unusedVariables false

theorem below_dn {B : Nat} {a w : World} (h : Below B a w) (n : Nat) : Below B a (w.drewN n) := h.trans ⟨rfl, rfl, rfl, Nat.le_refl _, fun _ _ => rfl⟩
theorem away_ok (s l : Nat) (hs : s < 18446744073709551616) (hl : l < 18446744073709551616) (w : World) : Calls Try.prog 18 #[.int .u64 (s : Int), .int .u64 (l : Int)] w fun e w' => e = .returned (.int .u64 (awy s l : Int)) ∧ w' = w := by
  have h := awy_int hs hl
  generalize awy s l = A at h ⊢
  go_enter Try.func18, Try.ntmps18
  go_wp2
  go_ret
  exact ⟨by simp, rfl⟩

def turnV (o : Option Nat) : Value := .tuple #[.int .i64 ((o.getD 0 : Nat) : Int), .bool o.isSome]
set_option maxHeartbeats 4000000 in
theorem turn_ok (L : List En) (l : Nat) (hf : FitS L) (hl : l < 18446744073709551616) (la : Option Addr) (lc : Nat) (lm : L.length ≤ 9223372036854775807) (w : World) (hS : Li En.vals 0 la L w) :
    Calls Try.prog 8 #[.slice la L.length lc, .int .u64 (l : Int)] w fun e w' => e = .returned (turnV (turnS L l)) ∧ Below w.heap.size w w' := by
  have hT : 0 < L.length → turnS L l = some (pkA l L L.length) := turnS_pk hf hl
  have hT0 : L.length = 0 → turnS L l = none := fun h => by rw [List.length_eq_zero_iff.1 h]; exact turnS_none l
  have hP := pkA_lt l L
  obtain ⟨n, hn⟩ : ∃ n, Hid (L.length = n) := ⟨_, rfl⟩
  rw [hn.out] at lm hT hT0 hP ⊢
  have HT : Hid _ := hT
  have HT0 : Hid _ := hT0
  have HP : Hid (0 < n → ∀ j, j ≤ n → pkA l L j < n) := fun h j hj => hP h j hj
  have HF : Hid (FitS L) := hf
  clear hT hT0 hP hf
  go_enter Try.func8, Try.ntmps8
  go_wp2_with fail
  go_loopw [6, 11] (fun av iv wr => ∃ j q : Nat, j ≤ n ∧ iv = .int .i64 j ∧ av = .int .i64 q ∧ Hid (pkA l L j = q) ∧ Li En.vals 0 la L wr ∧ Below w.heap.size w wr) (fun _ iv _ => n - (intOf iv).toNat)
  case atStart => exact ⟨0, 0, by omega, rfl, rfl, rfl, hS, Below.refl _ _⟩
  case round =>
    clear hS
    obtain ⟨j, q, hj, rfl, rfl, HQ, hS, hB⟩ := hrel
    rename World => wr
    by_cases hjn : j < n
    · have j0 : (j : Int) < (n : Int) := by omega
      have j1 : (0 : Int) ≤ (j : Int) := by omega
      have hq : q < n := by rw [← HQ.out]; exact HP.out (by omega) j hj
      have q0 : (q : Int) < (n : Int) := by omega
      have q1 : (0 : Int) ≤ (q : Int) := by omega
      obtain ⟨x, hx⟩ : ∃ k, L[j]? = some k := ⟨_, List.getElem?_eq_getElem (by rw [hn.out]; exact hjn)⟩
      obtain ⟨y, hy⟩ : ∃ k, L[q]? = some k := ⟨_, List.getElem?_eq_getElem (by rw [hn.out]; exact hq)⟩
      have hxf := HF.out x (List.mem_of_getElem? hx)
      have hyf := HF.out y (List.mem_of_getElem? hy)
      have HY : Hid (awy x.se l < awy y.se l → pkA l L (j + 1) = j) := fun h => pkA_yes hx (by rw [HQ.out]; exact hy) h
      have HZ : Hid (¬ awy x.se l < awy y.se l → pkA l L (j + 1) = q) := fun h => (pkA_no hx (by rw [HQ.out]; exact hy) h).trans HQ.out
      obtain ⟨b, o, rfl, _, hbl, hr⟩ := hS.at En.vals_length j x hx
      obtain ⟨b', o', e', _, _, hry⟩ := hS.at En.vals_length q y hy
      cases e'
      have b1 := blk_new wr x.arr 36
      have hb := below_box wr (.cells x.arr 36)
      have hry2 : (wr.alloc (.cells x.arr 36)).rangeAt b (o + q * 6) y.vals := range_block hry (hb.block b hbl)
      have a1 := fun v => away_ok x.se l hxf hl v
      have a2 := fun v => away_ok y.se l hyf hl v
      go_upto_region 5 with (go_big_may; first | refine load_range rfl 36 _ rfl x.vals hr rfl Try.underlying36 rfl sizeEn ?_ | refine alloc_zero zeroEn rfl rfl ?_ | refine store_new rfl 36 _ _ rfl (cells := x.arr) rfl rfl sizeEn rfl x.arr_one ?_)
      try simp only [Act.put]
      generalize wr.alloc (Obj.cells x.arr 36) = W1 at b1 hb hry2 ⊢
      replace hS := hS.below hb
      replace hB := hB.trans (hb.mono hB.size)
      have c3 : W1.cell? ⟨wr.heap.size, 3, none⟩ = some (.int .u64 (x.se : Int)) := b1.cell 3 _ rfl
      have d3 : W1.cell? ⟨b, o + q * 6 + 3, none⟩ = some (.int .u64 (y.se : Int)) := hry2 3 _ rfl
      clear hb hr hbl hry hry2 hx hy
      generalize wr.heap.size = z at b1 c3 ⊢
      have HS : Hid (Li En.vals 0 (some ⟨b, o, none⟩) L W1) := hS
      have HB : Hid (Below w.heap.size w W1) := hB
      clear hS hB
      by_cases hlt : awy x.se l < awy y.se l
      · have d1 : (awy x.se l : Int) < (awy y.se l : Int) := by omega
        go_quiet (first | exact Calls.quiet_of_same (a1 _) | exact Calls.quiet_of_same (a2 _))
        go_wp2_with fail
        exact ⟨⟨j + 1, j, by omega, by go_num, rfl, HY.out hlt, HS.out.below (below_dn (Below.refl _ _) _), below_dn HB.out _⟩, by simp [intOf]; omega⟩
      · have d1 : ¬ (awy x.se l : Int) < (awy y.se l : Int) := by omega
        go_quiet (first | exact Calls.quiet_of_same (a1 _) | exact Calls.quiet_of_same (a2 _))
        go_wp2_with fail
        exact ⟨⟨j + 1, q, by omega, by go_num, rfl, HZ.out hlt, HS.out.below (below_dn (Below.refl _ _) _), below_dn HB.out _⟩, by simp [intOf]; omega⟩
    · obtain rfl : j = n := by omega
      by_cases h0 : j = 0
      · subst h0
        have e := HT0.out rfl
        have hq0 : q = 0 := HQ.out.symm
        subst hq0
        go_wp2_with fail
        go_ret2
        try rw [e]
        exact ⟨rfl, hB⟩
      · have e := HT.out (by omega)
        rw [HQ.out] at e
        have j2 : (0 : Int) < (j : Int) := by omega
        go_wp2_with fail
        go_ret2
        try rw [e]
        exact ⟨by simp [turnV]; omega, hB⟩

end Go.Proofs.Ytkppidcamhbddaa
