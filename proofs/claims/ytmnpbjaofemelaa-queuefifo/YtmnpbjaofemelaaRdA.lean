/-
  The least count, who is a member, who may send: what the code answers.
  No condition.
-/
import Derived.Test.YtmnpbjaofemelaaRdL
namespace Go.Proofs.Ytmnpbjaofemelaa
set_option maxRecDepth 10000
open Go.RowKit Go.Sort

set_option maxHeartbeats 2000000 in
theorem cleast_ok (c m : Nat → Nat) (w : World) : Calls Try.prog 33 #[.agg (mbc c), .agg (mbc m)] w fun e w' => e = .returned (.tuple #[.int .u32 (leastC c m : Nat), .bool (!(lst m).isEmpty)]) ∧ Below w.heap.size w w' := by
  obtain ⟨a0, a1, hB⟩ := two_blk (T0 := 28) (T1 := 29) (C0 := mbc c) (C1 := mbc m) (w := w) rfl
  obtain ⟨R, hR⟩ : ∃ R, Hid (leastC c m = R) := ⟨_, rfl⟩
  rw [hR.out]
  have hm8 := lst_len m
  have HM : Hid (∀ j d, (lst m)[j]? = some d → d < 8) := fun j d h => (at_lst m j d h).1
  have HL : Hid (leastL c (lst m) = R) := hR
  obtain ⟨t, ht⟩ : ∃ t, Hid ((!(lst m).isEmpty) = t) := ⟨_, rfl⟩
  rw [ht.out]
  have hl := list_ok m
  unfold Listed at hl
  generalize lst m = L at *
  clear hR
  go_enter Try.func33, Try.ntmps33
  go_upto_region 1 with fail
  generalize (w.alloc (Obj.cells (mbc c) 28)).alloc (Obj.cells (mbc m) 29) = W at a0 a1 hB ⊢
  go_wp2_with (refine load_blk rfl 29 _ rfl a1 rfl Try.underlying29 rfl sizeMb ?_)
  refine (hl _).mono ?_
  rintro r w1 ⟨⟨la, lc, rfl, hS⟩, hb⟩
  replace a0 := a0.below hb
  replace hB := hB.trans (hb.mono hB.size)
  replace hS := hS.mono (Nat.zero_le _)
  clear hb hl a1
  cases L with
  | nil =>
    have e : R = 0 := HL.out.symm
    have e2 : t = false := ht.out.symm
    subst e e2
    clear ht HL HM hm8 hS a0
    go_wp2_with fail
    go_ret2
    exact ⟨rfl, hB⟩
  | cons x l =>
    have hx8 := HM.out 0 x rfl
    obtain ⟨b, o, rfl, _, hbl, hr⟩ := hS.at nv_length 0 x rfl
    have q0 : w1.cell? ⟨b, o, none⟩ = some (.int .i64 (x : Int)) := by have := hr 0 _ rfl; simpa using this
    have q1 := a0.cell x _ (mbc_get c x hx8)
    have x0 : (x : Int) < 8 := by omega
    have x1 : (0 : Int) ≤ (x : Int) := by omega
    have HF : Hid (fm c (c x) (x :: l) = R) := by rw [← HL.out]; exact fm_head c x l
    obtain ⟨n, hn⟩ : ∃ n, (x :: l).length = n := ⟨_, rfl⟩
    have HN : Hid ((x :: l).length = n) := hn
    have e2 : t = true := ht.out.symm
    subst e2
    rw [hn]
    rw [hn] at hm8
    have hnp : 0 < n := by rw [← hn]; simp
    have hn0 : ¬ (n : Int) = 0 := by omega
    have n0 : (0 : Int) < (n : Int) := by omega
    have hS' : Hid (Li nv 0 (some ⟨b, o, none⟩) (x :: l) w1) := hS
    clear hn hS hr HL ht hnp
    go_wp2_with fail
    clear q0 q1 x0 x1 hx8 hn0 n0
    go_loopw [7, 22] (fun mv iv wr => ∃ j : Nat, j ≤ n ∧ iv = .int .i64 j ∧ mv = .int .u32 (fm c (c x) ((x :: l).take j) : Nat) ∧ wr = w1) (fun _ iv _ => n - (intOf iv).toNat)
    case atStart => exact ⟨0, by omega, rfl, rfl, rfl⟩
    case round =>
      obtain ⟨j, hj, rfl, rfl, rfl⟩ := hrel
      by_cases hjn : j < n
      · have j0 : (j : Int) < (n : Int) := by omega
        have j1 : (0 : Int) ≤ (j : Int) := by omega
        obtain ⟨d, hd⟩ : ∃ d, (x :: l)[j]? = some d := ⟨_, List.getElem?_eq_getElem (by rw [HN.out]; exact hjn)⟩
        have hd8 := HM.out j d hd
        have d0 : (d : Int) < 8 := by omega
        have d1 : (0 : Int) ≤ (d : Int) := by omega
        obtain ⟨b', o', e', _, _, hr'⟩ := hS'.out.at nv_length j d hd
        injection e' with e'
        injection e' with e1 e2 e3
        subst e1 e2
        have q0 : wr.cell? ⟨b, o + j, none⟩ = some (.int .i64 (d : Int)) := by have := hr' 0 _ rfl; simpa using this
        have q1 := a0.cell d _ (mbc_get c d hd8)
        have hst := fm_take c (c x) (x :: l) j d hd
        generalize fm c (c x) ((x :: l).take j) = u at hst ⊢
        have HS : Hid (fm c (c x) ((x :: l).take (j + 1)) = min u (c d)) := hst
        clear hst hr' hd hd8 hbl
        go_wp2_with fail
        refine ⟨⟨j + 1, by omega, by go_num, ?_, trivial⟩, by simp [intOf]; omega⟩
        rw [HS.out]
        congr 1
        split <;> omega
      · obtain rfl : j = n := by omega
        have e : fm c (c x) ((x :: l).take j) = R := by rw [List.take_of_length_le (by rw [HN.out]; omega)]; exact HF.out
        rw [e]
        clear e HF HN HM hS' a0
        go_wp2_with fail
        go_ret2
        exact ⟨rfl, hB⟩

theorem isMember_ok (m : Nat → Nat) (v : Int) (w : World) : Calls Try.prog 32 #[.agg (mbc m), .int .i64 v] w fun e w' => e = .returned (.bool (isM m v)) ∧ Below w.heap.size w w' := by
  have a0 := blk_new w (mbc m) 29
  have hB : Below w.heap.size w (w.alloc (.cells (mbc m) 29)) := below_box w _
  have hm8 := lst_len m
  rw [← hasL_isM]
  obtain ⟨t, hT⟩ : ∃ t, Hid (hasL (lst m) v = t) := ⟨_, rfl⟩
  rw [hT.out]
  go_enter Try.func32, Try.ntmps32
  go_upto_region 1 with fail
  generalize (w.alloc (Obj.cells (mbc m) 29)) = W at a0 hB ⊢
  go_wp2_with (refine load_blk rfl 29 _ rfl a0 rfl Try.underlying29 rfl sizeMb ?_)
  refine (list_ok m _).mono ?_
  rintro r w1 ⟨⟨la, lc, rfl, hS⟩, hb⟩
  replace hB := hB.trans (hb.mono hB.size)
  replace hS := hS.mono (Nat.zero_le _)
  have hp := contains_ok (lst m) la lc v (by omega) w1 hS
  rw [hT.out] at hp
  generalize (lst m).length = n at *
  clear hb a0 hS
  go_wp2_with fail
  refine hp.mono ?_
  rintro r w2 ⟨rfl, rfl⟩
  clear hp
  go_wp2_with fail
  go_ret
  exact ⟨rfl, hB⟩

end Go.Proofs.Ytmnpbjaofemelaa
