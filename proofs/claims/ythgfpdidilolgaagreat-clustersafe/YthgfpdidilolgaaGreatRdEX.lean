/-
  Of the texts beneath these laws, in their order: RdE.
  Each theorem says its own conditions.
-/
import Derived.Test.YthgfpdidilolgaaGreatZ26
import Derived.Test.YthgfpdidilolgaaGreatLsRX
namespace Go.Proofs.YthgfpdidilolgaaGreat
set_option maxRecDepth 10000
open Go.RowKit Go.Sort
def fullTo (c : Nat → Nat) (r : Nat) (L : List Nat) : Bool := L.all fun d => decide (r ≤ c d)
set_option maxHeartbeats 1000000 in
theorem rfull_ok (c m : Nat → Nat) (hc : ∀ i, c i < 4294967296) (x : Nat) (w : World) : Calls Tryz.prog 21 #[.agg (mbc c), .agg (mbc m), .int .u64 (x : Int)] w fun e w' => e = .returned (.bool (fullB c m x)) ∧ Below w.heap.size w w' := by
 obtain ⟨a0, a1, hB⟩ := two_blk (T0 := 60) (T1 := 55) (C0 := mbc c) (C1 := mbc m) (w := w) rfl
 obtain ⟨R, hR⟩ : ∃ R, Hid (fullTo c x (lst m) = R) := ⟨_, rfl⟩
 rw [show fullB c m x = R from hR.out]
 have HC : Hid (∀ i, c i < 4294967296) := hc
 have hm8 := lst_len m
 have HM : Hid (∀ j d, (lst m)[j]? = some d → d < 8) := fun j d h => (at_lst m j d h).1
 have hl := rlist_ok m
 unfold Listed at hl
 generalize lst m = L at *
 clear hc
 go_enter Tryz.func21, Tryz.ntmps21
 go_upto_region 1 with fail
 generalize (w.alloc (Obj.cells (mbc c) 60)).alloc (Obj.cells (mbc m) 55) = W at a0 a1 hB ⊢
 go_wp2_with (refine load_blk rfl 55 _ rfl a1 rfl Tryz.underlying55 rfl sizeMb ?_)
 refine (hl _).mono ?_
 rintro r w1 ⟨⟨la, lc, rfl, hS⟩, hb⟩
 replace a0 := a0.below hb
 replace hB := hB.trans (hb.mono hB.size)
 replace hS := hS.mono (Nat.zero_le _)
 clear hb hl a1
 obtain ⟨n, hn⟩ : ∃ n, L.length = n := ⟨_, rfl⟩
 have HN : Hid (L.length = n) := hn
 rw [hn] at hm8 ⊢
 clear hn
 go_wp2_with fail
 go_loopw [8] (fun iv wr => ∃ j : Nat, j ≤ n ∧ iv = .int .i64 j ∧ wr = w1 ∧ Hid (fullTo c x (L.take j) = true)) (fun iv _ => n - (intOf iv).toNat)
 case atStart => exact ⟨0, by omega, rfl, rfl, rfl⟩
 case round =>
  obtain ⟨j, hj, rfl, rfl, h0⟩ := hrel
  by_cases hjn : j < n
  ·have j0 : (j : Int) < (n : Int) := by omega
   have j1 : (0 : Int) ≤ (j : Int) := by omega
   obtain ⟨d, hd⟩ : ∃ d, L[j]? = some d := ⟨_, List.getElem?_eq_getElem (by rw [HN.out]; exact hjn)⟩
   have hd8 := HM.out j d hd
   have d0 : (d : Int) < 8 := by omega
   have d1 : (0 : Int) ≤ (d : Int) := by omega
   obtain ⟨b, o, rfl, _, hbl, hr⟩ := hS.at nv_length j d hd
   have c0 : wr.cell? ⟨b, o + j, none⟩ = some (.int .i64 (d : Int)) := by have := hr 0 _ rfl; simpa using this
   have c1 := a0.cell d _ (mbc_get c d hd8)
   have hw : IntKind.u64.wrap (c d : Int) = (c d : Int) := by have := HC.out d; rw [IntKind.wrap_u64]; omega
   by_cases h1 : c d < x
   ·have g1 : decide (c d < x) = true := by simpa using h1
    obtain rfl : R = false := by
     rw [← hR.out, fullTo, List.all_eq_false]
     exact ⟨d, List.mem_of_getElem? hd, by simp; omega⟩
    clear h1 hd hr h0 hR hS HC HM HN hbl
    go_wp2_with fail
    go_ret
    exact ⟨rfl, hB⟩
   ·have g1 : decide (c d < x) = false := by simpa using h1
    have HS : Hid (fullTo c x (L.take (j + 1)) = true) := by
     show fullTo c x (L.take (j + 1)) = true
     rw [fullTo, List.take_add_one, hd, List.all_append, Bool.and_eq_true]
     exact ⟨h0.out, by simp; omega⟩
    clear h1 hd hr h0 hbl
    go_wp2_with fail
    exact ⟨⟨j + 1, by omega, by go_num, trivial, HS⟩, by simp [intOf]; omega⟩
  ·obtain rfl : j = n := by omega
   have h := h0.out
   rw [List.take_of_length_le (by rw [HN.out]; omega), hR.out] at h
   subst h
   clear h0 HN HM hS a0 hR HC
   go_wp2_with fail
   go_ret
   exact ⟨rfl, hB⟩
set_option maxHeartbeats 2000000 in
theorem rleast_ok (c m : Nat → Nat) (w : World) : Calls Tryz.prog 19 #[.agg (mbc c), .agg (mbc m)] w fun e w' => e = .returned (.tuple #[.int .u32 (leastC c m : Nat), .bool (!(lst m).isEmpty)]) ∧ Below w.heap.size w w' := by
 obtain ⟨a0, a1, hB⟩ := two_blk (T0 := 60) (T1 := 55) (C0 := mbc c) (C1 := mbc m) (w := w) rfl
 obtain ⟨R, hR⟩ : ∃ R, Hid (leastC c m = R) := ⟨_, rfl⟩
 rw [hR.out]
 have hm8 := lst_len m
 have HM : Hid (∀ j d, (lst m)[j]? = some d → d < 8) := fun j d h => (at_lst m j d h).1
 have hl := rlist_ok m
 unfold Listed at hl
 have HL : Hid (leastL c (lst m) = R) := hR
 obtain ⟨t, ht⟩ : ∃ t, Hid ((!(lst m).isEmpty) = t) := ⟨_, rfl⟩
 rw [ht.out]
 generalize lst m = L at *
 clear hR
 go_enter Tryz.func19, Tryz.ntmps19
 go_upto_region 1 with fail
 generalize (w.alloc (Obj.cells (mbc c) 60)).alloc (Obj.cells (mbc m) 55) = W at a0 a1 hB ⊢
 go_wp2_with (refine load_blk rfl 55 _ rfl a1 rfl Tryz.underlying55 rfl sizeMb ?_)
 refine (hl _).mono ?_
 rintro r w1 ⟨⟨la, lc, rfl, hS⟩, hb⟩
 replace a0 := a0.below hb
 replace hB := hB.trans (hb.mono hB.size)
 replace hS := hS.mono (Nat.zero_le _)
 clear hb hl a1
 cases L with
 | nil =>
  have e : R = 0 := HL.out.symm
  have e2 : t = false := ht.out.symm
  subst e e2
  clear ht HL HM hm8 hS a0
  go_wp2_with fail
  go_ret2
  exact ⟨rfl, hB⟩
 | cons x l =>
  have hx8 := HM.out 0 x rfl
  obtain ⟨b, o, rfl, _, hbl, hr⟩ := hS.at nv_length 0 x rfl
  have q0 : w1.cell? ⟨b, o, none⟩ = some (.int .i64 (x : Int)) := by have := hr 0 _ rfl; simpa using this
  have q1 := a0.cell x _ (mbc_get c x hx8)
  have x0 : (x : Int) < 8 := by omega
  have x1 : (0 : Int) ≤ (x : Int) := by omega
  have HF : Hid (fm c (c x) (x :: l) = R) := by rw [← HL.out]; exact fm_head c x l
  obtain ⟨n, hn⟩ : ∃ n, (x :: l).length = n := ⟨_, rfl⟩
  have HN : Hid ((x :: l).length = n) := hn
  have e2 : t = true := ht.out.symm
  subst e2
  rw [hn]
  rw [hn] at hm8
  have hnp : 0 < n := by rw [← hn]; simp
  have hn0 : ¬ (n : Int) = 0 := by omega
  have n0 : (0 : Int) < (n : Int) := by omega
  have hS' : Hid (Li nv 0 (some ⟨b, o, none⟩) (x :: l) w1) := hS
  have hf1 : fm c (c x) ((x :: l).take 1) = c x := by show min (c x) (c x) = c x; exact Nat.min_self _
  clear hn hS hr HL ht
  go_wp2_with fail
  clear q0 q1 x0 x1 hx8 hn0 n0
  go_loopw [7, 8] (fun mv iv wr => ∃ j : Nat, j ≤ n ∧ iv = .int .i64 j ∧ mv = .int .u32 (fm c (c x) ((x :: l).take j) : Nat) ∧ wr = w1) (fun _ iv _ => n - (intOf iv).toNat)
  case atStart => exact ⟨1, by omega, rfl, by rw [hf1], rfl⟩
  case round =>
   clear hf1 hnp
   obtain ⟨j, hj, rfl, rfl, rfl⟩ := hrel
   by_cases hjn : j < n
   ·have j0 : (j : Int) < (n : Int) := by omega
    have j1 : (0 : Int) ≤ (j : Int) := by omega
    obtain ⟨d, hd⟩ : ∃ d, (x :: l)[j]? = some d := ⟨_, List.getElem?_eq_getElem (by rw [HN.out]; exact hjn)⟩
    have hd8 := HM.out j d hd
    have d0 : (d : Int) < 8 := by omega
    have d1 : (0 : Int) ≤ (d : Int) := by omega
    obtain ⟨b', o', e', _, _, hr'⟩ := hS'.out.at nv_length j d hd
    injection e' with e'
    injection e' with e1 e2 e3
    subst e1 e2
    have q0 : wr.cell? ⟨b, o + j, none⟩ = some (.int .i64 (d : Int)) := by have := hr' 0 _ rfl; simpa using this
    have q1 := a0.cell d _ (mbc_get c d hd8)
    have hst := fm_take c (c x) (x :: l) j d hd
    generalize fm c (c x) ((x :: l).take j) = u at hst ⊢
    have HS : Hid (fm c (c x) ((x :: l).take (j + 1)) = min u (c d)) := hst
    clear hst hr' hd hd8 hbl
    by_cases h1 : c d < u
    ·have h1' : (c d : Int) < (u : Int) := by omega
     have HE : Hid (min u (c d) = c d) := Nat.min_eq_right (by omega)
     clear h1
     go_wp2_with fail
     exact ⟨⟨j + 1, by omega, by go_num, by rw [HS.out, HE.out], trivial⟩, by simp [intOf]; omega⟩
    ·have h1' : ¬ (c d : Int) < (u : Int) := by omega
     have HE : Hid (min u (c d) = u) := Nat.min_eq_left (by omega)
     clear h1
     go_wp2_with fail
     exact ⟨⟨j + 1, by omega, by go_num, by rw [HS.out, HE.out], trivial⟩, by simp [intOf]; omega⟩
   ·obtain rfl : j = n := by omega
    have e : fm c (c x) ((x :: l).take j) = R := by rw [List.take_of_length_le (by rw [HN.out]; omega)]; exact HF.out
    rw [e]
    clear e HF HN HM hS' a0
    go_wp2_with fail
    go_ret2
    exact ⟨rfl, hB⟩
end Go.Proofs.YthgfpdidilolgaaGreat
