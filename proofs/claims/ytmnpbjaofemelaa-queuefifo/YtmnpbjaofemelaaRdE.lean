/-
  The least count, and who may send: what the document says.
  Counts are such as a uint32 holds.
-/
import Derived.Test.YtmnpbjaofemelaaRdA
import Derived.Test.YtmnpbjaofemelaaLsR
namespace Go.Proofs.Ytmnpbjaofemelaa
set_option maxRecDepth 10000
open Go.RowKit Go.Sort

def fullTo (c : Nat → Nat) (r : Nat) (L : List Nat) : Bool := L.all fun d => decide (r ≤ c d)

set_option maxHeartbeats 1000000 in
theorem rfull_ok (c m : Nat → Nat) (hc : ∀ i, c i < 4294967296) (x : Nat) (w : World) : Calls Try.prog 43 #[.agg (mbc c), .agg (mbc m), .int .u64 (x : Int)] w fun e w' => e = .returned (.bool (fullB c m x)) ∧ Below w.heap.size w w' := by
  obtain ⟨a0, a1, hB⟩ := two_blk (T0 := 28) (T1 := 29) (C0 := mbc c) (C1 := mbc m) (w := w) rfl
  obtain ⟨R, hR⟩ : ∃ R, Hid (fullTo c x (lst m) = R) := ⟨_, rfl⟩
  rw [show fullB c m x = R from hR.out]
  have HC : Hid (∀ i, c i < 4294967296) := hc
  have hm8 := lst_len m
  have HM : Hid (∀ j d, (lst m)[j]? = some d → d < 8) := fun j d h => (at_lst m j d h).1
  have hl := rlist_ok m
  unfold Listed at hl
  generalize lst m = L at *
  clear hc
  go_enter Try.func43, Try.ntmps43
  go_upto_region 1 with fail
  generalize (w.alloc (Obj.cells (mbc c) 28)).alloc (Obj.cells (mbc m) 29) = W at a0 a1 hB ⊢
  go_wp2_with (refine load_blk rfl 29 _ rfl a1 rfl Try.underlying29 rfl sizeMb ?_)
  refine (hl _).mono ?_
  rintro r w1 ⟨⟨la, lc, rfl, hS⟩, hb⟩
  replace a0 := a0.below hb
  replace hB := hB.trans (hb.mono hB.size)
  replace hS := hS.mono (Nat.zero_le _)
  clear hb hl a1
  obtain ⟨n, hn⟩ : ∃ n, L.length = n := ⟨_, rfl⟩
  have HN : Hid (L.length = n) := hn
  rw [hn] at hm8 ⊢
  clear hn
  go_wp2_with fail
  go_loopw [8] (fun iv wr => ∃ j : Nat, j ≤ n ∧ iv = .int .i64 j ∧ wr = w1 ∧ Hid (fullTo c x (L.take j) = true)) (fun iv _ => n - (intOf iv).toNat)
  case atStart => exact ⟨0, by omega, rfl, rfl, rfl⟩
  case round =>
    obtain ⟨j, hj, rfl, rfl, h0⟩ := hrel
    by_cases hjn : j < n
    · have j0 : (j : Int) < (n : Int) := by omega
      have j1 : (0 : Int) ≤ (j : Int) := by omega
      obtain ⟨d, hd⟩ : ∃ d, L[j]? = some d := ⟨_, List.getElem?_eq_getElem (by rw [HN.out]; exact hjn)⟩
      have hd8 := HM.out j d hd
      have d0 : (d : Int) < 8 := by omega
      have d1 : (0 : Int) ≤ (d : Int) := by omega
      obtain ⟨b, o, rfl, _, hbl, hr⟩ := hS.at nv_length j d hd
      have c0 : wr.cell? ⟨b, o + j, none⟩ = some (.int .i64 (d : Int)) := by have := hr 0 _ rfl; simpa using this
      have c1 := a0.cell d _ (mbc_get c d hd8)
      have hw : IntKind.u64.wrap (c d : Int) = (c d : Int) := by have := HC.out d; rw [IntKind.wrap_u64]; omega
      by_cases h1 : c d < x
      · have g1 : decide (c d < x) = true := by simpa using h1
        obtain rfl : R = false := by
          rw [← hR.out, fullTo, List.all_eq_false]
          exact ⟨d, List.mem_of_getElem? hd, by simp; omega⟩
        clear h1 hd hr h0 hR hS HC HM HN hbl
        go_wp2_with fail
        go_ret
        exact ⟨rfl, hB⟩
      · have g1 : decide (c d < x) = false := by simpa using h1
        have HS : Hid (fullTo c x (L.take (j + 1)) = true) := by
          show fullTo c x (L.take (j + 1)) = true
          rw [fullTo, List.take_add_one, hd, List.all_append, Bool.and_eq_true]
          exact ⟨h0.out, by simp; omega⟩
        clear h1 hd hr h0 hbl
        go_wp2_with fail
        exact ⟨⟨j + 1, by omega, by go_num, trivial, HS⟩, by simp [intOf]; omega⟩
    · obtain rfl : j = n := by omega
      have h := h0.out
      rw [List.take_of_length_le (by rw [HN.out]; omega), hR.out] at h
      subst h
      clear h0 HN HM hS a0 hR HC
      go_wp2_with fail
      go_ret
      exact ⟨rfl, hB⟩

end Go.Proofs.Ytmnpbjaofemelaa
