/-
  Has, Same, and the highest Id of a list: what each call answers.
  No condition.
-/
import Derived.Test.YtbgfhmnlnjlnhaaImC
namespace Go.Proofs.Ytbgfhmnlnjlnhaa
set_option maxRecDepth 10000
open Go.RowKit Go.Sort

def hasM (m : Nat → Nat) (i : Int) (n : Nat) : Bool := decide (0 ≤ i ∧ i < 8 ∧ n ≠ 0 ∧ m i.toNat = n)

set_option maxHeartbeats 1000000 in
theorem has_ok (m : Nat → Nat) (i : Int) (n : Nat) (w : World) : Calls Try.prog 18 #[.agg (mbc m), .int .i64 i, .int .u32 (n : Int)] w fun e w' => e = .returned (.bool (hasM m i n)) ∧ Below w.heap.size w w' := by
  have b1 := blk_new w (mbc m) 26
  have hB : Below w.heap.size w (w.alloc (.cells (mbc m) 26)) := below_box w _
  obtain ⟨W, hW⟩ : ∃ W, w.alloc (.cells (mbc m) 26) = W := ⟨_, rfl⟩
  rw [hW] at b1 hB
  by_cases h0 : 0 ≤ i
  · by_cases h1 : i < 8
    · obtain ⟨k, rfl⟩ : ∃ k : Nat, i = (k : Int) := ⟨i.toNat, by omega⟩
      have c0 := b1.cell k _ (mbc_get m k (by omega))
      by_cases h2 : n = 0
      · subst h2
        have hr : hasM m (k : Int) 0 = false := by simp [hasM]
        rw [hr]
        clear b1
        go_enter Try.func18, Try.ntmps18
        go_wp2_with fail
        go_ret
        exact ⟨rfl, hB⟩
      · have h2' : ((n : Int) != 0) = true := by rw [bne_iff_ne]; omega
        by_cases h3 : m k = n
        · have hr : hasM m (k : Int) n = true := by simp [hasM, h2, h3]; omega
          rw [hr]
          rw [h3] at c0
          clear b1
          go_enter Try.func18, Try.ntmps18
          go_wp2_with fail
          go_ret
          exact ⟨rfl, hB⟩
        · have hr : hasM m (k : Int) n = false := by simp [hasM, h3]
          rw [hr]
          have h3' : ((m k : Int) == (n : Int)) = false := by rw [beq_eq_false_iff_ne]; omega
          clear b1
          go_enter Try.func18, Try.ntmps18
          go_wp2_with fail
          go_ret
          exact ⟨rfl, hB⟩
    · have hr : hasM m i n = false := by simp [hasM, h1]
      rw [hr]
      clear b1
      go_enter Try.func18, Try.ntmps18
      go_wp2_with fail
      go_ret
      exact ⟨rfl, hB⟩
  · have hr : hasM m i n = false := by simp [hasM, h0]
    rw [hr]
    clear b1
    go_enter Try.func18, Try.ntmps18
    go_wp2_with fail
    go_ret
    exact ⟨rfl, hB⟩

def sameM (a b : Nat → Nat) : Nat → Nat := fun i => if a i = b i then a i else 0
def sameTo (a b : Nat → Nat) (j : Nat) : Nat → Nat := fun i => if i < j then sameM a b i else 0
theorem same_zero (a b : Nat → Nat) : mbc (sameTo a b 0) = mbc noMb := rfl
theorem same_full (a b : Nat → Nat) : mbc (sameTo a b 8) = mbc (sameM a b) := rfl
theorem same_set (a b : Nat → Nat) (j : Nat) (hj : j < 8) (h : a j = b j) : (mbc (sameTo a b j)).setIfInBounds j (.int .u32 (a j : Int)) = mbc (sameTo a b (j + 1)) := by
  rw [mbc_set _ j _ hj]
  apply mbc_ext
  intro i hi
  unfold sameTo sameM
  by_cases e : i = j
  · subst e; simp [h]
  · by_cases l : i < j
    · simp [e, l, show i < j + 1 by omega]
    · simp [e, l, show ¬ i < j + 1 by omega]
theorem same_skip (a b : Nat → Nat) (j : Nat) (h : a j = b j → a j = 0) : mbc (sameTo a b j) = mbc (sameTo a b (j + 1)) := by
  apply mbc_ext
  intro i hi
  unfold sameTo sameM
  by_cases e : i = j
  · subst e
    by_cases l : a i = b i
    · rw [if_neg (by omega), if_pos (by omega), if_pos l, h l]
    · rw [if_neg (by omega), if_pos (by omega), if_neg l]
  · by_cases l : i < j
    · simp [l, show i < j + 1 by omega]
    · simp [l, show ¬ i < j + 1 by omega]

theorem sizeU32 : (Try.prog.info? 22).map (·.size) = some 1 := by kernel_rfl

set_option maxHeartbeats 2000000 in
theorem same_ok (a b : Nat → Nat) (w : World) : Calls Try.prog 16 #[.agg (mbc a), .agg (mbc b)] w fun e w' => e = .returned (.agg (mbc (sameM a b))) ∧ Below w.heap.size w w' := by
  obtain ⟨a1, a2, a3, a4, hB⟩ := four_blk (T0 := 26) (T1 := 26) (T2 := 26) (T3 := 26) (C0 := mbc a) (C1 := mbc b) (C2 := mbc noMb) (C3 := mbc noMb) (w := w) rfl
  rw [← same_zero a b] at a4
  go_enter Try.func16, Try.ntmps16
  go_wp2_with (first | refine alloc_zero zeroMb rfl rfl ?_ | refine load_blk rfl 26 _ rfl a1 rfl Try.underlying26 rfl sizeMb ?_)
  go_loopw [9] (fun iv wr => ∃ j : Nat, j ≤ 8 ∧ iv = .int .i64 j ∧ Blk (w.heap.size + 1) (mbc b) 26 wr ∧ Blk (w.heap.size + 1 + 1) (mbc noMb) 26 wr ∧ Blk (w.heap.size + 1 + 1 + 1) (mbc (sameTo a b j)) 26 wr ∧ Below w.heap.size w wr) (fun iv _ => 8 - (intOf iv).toNat)
  case atStart => exact ⟨0, by omega, rfl, a2, a3, a4, hB⟩
  case round =>
    clear a1 a2 a3 a4 hB
    obtain ⟨j, hj, rfl, a2, a3, a4, hB⟩ := hrel
    by_cases hj8 : j < 8
    · have j0 : (j : Int) < 8 := by omega
      have hix := indexMb a j hj8
      by_cases hh : hasM b (j : Int) (a j) = true
      · have hp := has_ok b (j : Int) (a j) wr
        rw [hh] at hp
        have hab : a j = b j := by simp [hasM] at hh; omega
        have hst := same_set a b j hj8 hab
        clear hh hab
        go_wp2_with (refine load_blk rfl 26 _ rfl a2 rfl Try.underlying26 rfl sizeMb ?_)
        refine hp.mono ?_
        rintro r w1 ⟨rfl, hb⟩
        have a2 := a2.below hb
        have a3 := a3.below hb
        have a4 := a4.below hb
        have hB := hB.trans (hb.mono hB.size)
        clear hb hp hix
        go_wp2_with (refine store_one rfl 22 _ _ rfl (off := j) (.int .u32 (a j : Int)) a4 rfl rfl rfl rfl sizeU32 (by rw [mbc_size]; omega) ?_; intro w2 b2 k2; rw [hst] at b2; have a2 := a2.kp k2 (by simp); have a3 := a3.kp k2 (by simp); have hB2 : Below w.heap.size w w2 := hB.trans (k2.below (by simp; omega) hB.size))
        exact ⟨⟨j + 1, by omega, by go_num, a2, a3, b2, hB2⟩, by simp [intOf]; omega⟩
      · have hh : hasM b (j : Int) (a j) = false := by simpa using hh
        have hp := has_ok b (j : Int) (a j) wr
        rw [hh] at hp
        have hab : a j = b j → a j = 0 := by
          intro h
          simp [hasM] at hh
          by_cases h0 : a j = 0
          · exact h0
          · exact absurd h.symm (hh (by omega) h0)
        rw [same_skip a b j hab] at a4
        clear hh hab
        go_wp2_with (refine load_blk rfl 26 _ rfl a2 rfl Try.underlying26 rfl sizeMb ?_)
        refine hp.mono ?_
        rintro r w1 ⟨rfl, hb⟩
        have a2 := a2.below hb
        have a3 := a3.below hb
        have a4 := a4.below hb
        have hB := hB.trans (hb.mono hB.size)
        clear hb hp hix
        go_wp2_with fail
        exact ⟨⟨j + 1, by omega, by go_num, a2, a3, a4, hB⟩, by simp [intOf]; omega⟩
    · obtain rfl : j = 8 := by omega
      rw [same_full] at a4
      have hpa : putAt (mbc noMb) 0 (mbc (sameM a b)).toList = mbc (sameM a b) := putAt_all _ _ rfl
      go_wp2_with (first | refine load_blk rfl 26 _ rfl a4 rfl Try.underlying26 rfl sizeMb ?_ | (refine store_part rfl 26 _ _ rfl (off := 0) (cells := mbc (sameM a b)) a3 rfl rfl sizeMb (by simp [mbc_size]) (mbc_one _) ?_; intro w2 b2 k2; rw [hpa] at b2; have hB2 : Below w.heap.size w w2 := hB.trans (k2.below (by simp; omega) hB.size)))
      refine bodyPost_ret (w := w2) (v := .agg (mbc (sameM a b))) (ret_one rfl rfl b2 Try.underlying26 rfl sizeMb) rfl ⟨rfl, hB2⟩

def hiTo (h : Idn) (x : Idn) : Idn := if cmpId h x < 0 then x else h
def hi (L : List Idn) : Idn := L.foldl hiTo Idn.zero
theorem hi_step (L : List Idn) (j : Nat) (x : Idn) (hx : L[j]? = some x) : hi (L.take (j + 1)) = hiTo (hi (L.take j)) x := by
  rw [List.take_add_one, hx]
  simp [hi, List.foldl_append]

set_option maxHeartbeats 2000000 in
theorem highest_ok (la : Option Addr) (L : List Idn) (lc : Nat) (lm : L.length ≤ 9223372036854775807) (w : World) (hL : Li Idn.vals 0 la L w) : Calls Try.prog 19 #[.slice la L.length lc] w fun e w' => e = .returned (.agg (hi L).arr) ∧ Below w.heap.size w w' := by
  obtain ⟨n, hn⟩ : ∃ n, L.length = n := ⟨_, rfl⟩
  rw [hn] at lm ⊢
  have HN : Hid (L.length = n) := hn
  obtain ⟨h, hh0⟩ : ∃ h, Hid (hi L = h) := ⟨_, rfl⟩
  rw [hh0.out]
  clear hn
  have a1 := (blk_new w Idn.zero.arr 24).alloc (.cells Idn.zero.arr 24)
  have a2 := blk_new (w.alloc (.cells Idn.zero.arr 24)) Idn.zero.arr 24
  rw [alloc_size] at a2
  have hB : Below w.heap.size w ((w.alloc (.cells Idn.zero.arr 24)).alloc (.cells Idn.zero.arr 24)) := (below_box w _).alloc (by simp) _
  obtain ⟨W, hW⟩ : ∃ W, (w.alloc (.cells Idn.zero.arr 24)).alloc (.cells Idn.zero.arr 24) = W := ⟨_, rfl⟩
  rw [hW] at a1 a2 hB
  go_enter Try.func19, Try.ntmps19
  go_wp2_with (refine alloc_zero zeroIdn rfl rfl ?_)
  go_loopw [8] (fun iv wr => ∃ j : Nat, j ≤ n ∧ iv = .int .i64 j ∧ Blk w.heap.size Idn.zero.arr 24 wr ∧ Blk (w.heap.size + 1) (hi (L.take j)).arr 24 wr ∧ Below w.heap.size w wr) (fun iv _ => n - (intOf iv).toNat)
  case atStart => exact ⟨0, by omega, rfl, a1, a2, hB⟩
  case round =>
    clear a1 a2 hB hW
    obtain ⟨j, hj, rfl, a1, a2, hB⟩ := hrel
    by_cases hjn : j < n
    · have j0 : (j : Int) < (n : Int) := by omega
      have j1 : (0 : Int) ≤ (j : Int) := by omega
      obtain ⟨x, hx⟩ : ∃ x, L[j]? = some x := ⟨_, List.getElem?_eq_getElem (by rw [HN.out]; exact hjn)⟩
      have hst := hi_step L j x hx
      obtain ⟨b, o, rfl, _, hbl, hr⟩ := hL.at Idn.vals_length j x hx
      have hrr := range_block hr (hB.block b hbl)
      obtain ⟨g, hh⟩ : ∃ h, Hid (hi (L.take j) = h) := ⟨_, rfl⟩
      rw [hh.out] at a2 hst
      have b1 := a1.alloc (.cells x.arr 24)
      have b2 := a2.alloc (.cells x.arr 24)
      have b3 := blk_new wr x.arr 24
      have hB2 : Below w.heap.size w (wr.alloc (.cells x.arr 24)) := hB.alloc hB.size _
      have hl1 : w.heap.size + 1 < wr.heap.size := a2.lt
      clear hx a1 a2 hB
      have hpa : putAt g.arr 0 x.arr.toList = x.arr := putAt_all _ _ rfl
      by_cases hlt : cmpId g x < 0
      · rw [hiTo, if_pos hlt] at hst
        go_wp2_with (first | refine load_range rfl 24 _ rfl x.vals hrr rfl Try.underlying24 rfl sizeIdn ?_ | refine alloc_zero zeroIdn rfl rfl ?_ | refine store_new rfl 24 _ _ rfl rfl rfl x.size rfl x.arr_one ?_ | refine load_blk rfl 24 _ rfl b2 rfl Try.underlying24 rfl (Idn.size _) ?_ | refine load_blk rfl 24 _ rfl b3 rfl Try.underlying24 rfl (Idn.size _) ?_)
        refine (cmp_ok g x _).mono ?_
        rintro r w1 ⟨rfl, hb⟩
        have b1 := b1.below hb
        have b2 := b2.below hb
        have b3 := b3.below hb
        have hB2 := hB2.trans (hb.mono hB2.size)
        clear hb hrr hr
        go_wp2_with (first | refine load_blk rfl 24 _ rfl b3 rfl Try.underlying24 rfl (Idn.size _) ?_ | (refine store_part rfl 24 _ _ rfl (off := 0) (cells := x.arr) b2 rfl rfl x.size (by exact Nat.le_refl _) x.arr_one ?_; intro w2 d2 k2; rw [hpa] at d2; have d1 := b1.kp k2 (by simp); have hB3 : Below w.heap.size w w2 := hB2.trans (k2.below (by simp) hB2.size)))
        rw [← hst] at d2
        exact ⟨⟨j + 1, by omega, by go_num, d1, d2, hB3⟩, by simp [intOf]; omega⟩
      · rw [hiTo, if_neg hlt] at hst
        go_wp2_with (first | refine load_range rfl 24 _ rfl x.vals hrr rfl Try.underlying24 rfl sizeIdn ?_ | refine alloc_zero zeroIdn rfl rfl ?_ | refine store_new rfl 24 _ _ rfl rfl rfl x.size rfl x.arr_one ?_ | refine load_blk rfl 24 _ rfl b2 rfl Try.underlying24 rfl (Idn.size _) ?_ | refine load_blk rfl 24 _ rfl b3 rfl Try.underlying24 rfl (Idn.size _) ?_)
        refine (cmp_ok g x _).mono ?_
        rintro r w1 ⟨rfl, hb⟩
        have b1 := b1.below hb
        have b2 := b2.below hb
        have hB2 := hB2.trans (hb.mono hB2.size)
        rw [← hst] at b2
        clear hb hrr hr b3
        go_wp2_with fail
        exact ⟨⟨j + 1, by omega, by go_num, b1, b2, hB2⟩, by simp [intOf]; omega⟩
    · obtain rfl : j = n := by omega
      rw [List.take_of_length_le (by rw [HN.out]; omega)] at a2
      rw [hh0.out] at a2
      have hpa : putAt Idn.zero.arr 0 h.arr.toList = h.arr := putAt_all _ _ rfl
      clear hL HN
      go_wp2_with (first | refine load_blk rfl 24 _ rfl a2 rfl Try.underlying24 rfl (Idn.size _) ?_ | (refine store_part rfl 24 _ _ rfl (off := 0) (cells := h.arr) a1 rfl rfl h.size (by exact Nat.le_refl _) h.arr_one ?_; intro w2 d2 k2; rw [hpa] at d2; have hB2 : Below w.heap.size w w2 := hB.trans (k2.below (by simp) hB.size)))
      refine bodyPost_ret (w := w2) (v := .agg h.arr) (ret_one rfl rfl d2 Try.underlying24 rfl h.size) rfl ⟨rfl, hB2⟩

end Go.Proofs.Ytbgfhmnlnjlnhaa
