/-
  Two lists of letters that are the same; three letters of one link; the calls whose answers the document fixes: what Same, three and fixed answer.
  No condition.
-/
import Derived.Test.YthkfolohhdafkaaLeD
namespace Go.Proofs.Ythkfolohhdafkaa
set_option maxRecDepth 10000
open Go.RowKit Go.Sort
set_option linter.unusedVariables false
set_option linter.unusedSimpArgs false

set_option maxHeartbeats 1000000 in
theorem lsame_ok (L : List Le) (la lb : Option Addr) (lc ld : Nat) (lm : L.length ≤ 9223372036854775807) (w : World) (hA : Li Le.vals 0 la L w) (hC : Li Le.vals 0 lb L w) : Calls Try.prog 12 #[.slice la L.length lc, .slice lb L.length ld] w fun e w' => e = .returned (.bool true) ∧ Below w.heap.size w w' := by
  obtain ⟨n, hn⟩ : ∃ n, Hid (L.length = n) := ⟨_, rfl⟩
  rw [hn.out] at lm ⊢
  have n0 : ((n : Int) != (n : Int)) = false := by simp
  go_enter Try.func12, Try.ntmps12
  go_wp2_with fail
  clear n0
  go_loopw [5] (fun iv wr => ∃ j : Nat, j ≤ n ∧ iv = .int .i64 j ∧ Li Le.vals 0 la L wr ∧ Li Le.vals 0 lb L wr ∧ Below w.heap.size w wr) (fun iv _ => n - (intOf iv).toNat)
  case atStart => exact ⟨0, by omega, rfl, hA, hC, Below.refl _ _⟩
  case round =>
    clear hA hC
    obtain ⟨j, hj, rfl, hA, hC, hB⟩ := hrel
    by_cases hjn : j < n
    · have j0 : (j : Int) < (n : Int) := by omega
      have j1 : (0 : Int) ≤ (j : Int) := by omega
      obtain ⟨k, hk⟩ : ∃ k, L[j]? = some k := ⟨_, List.getElem?_eq_getElem (by rw [hn.out]; exact hjn)⟩
      obtain ⟨b, o, rfl, _, hbl, hr⟩ := hA.at Le.vals_length j k hk
      obtain ⟨b', o', rfl, _, hbl', hr'⟩ := hC.at Le.vals_length j k hk
      have kK : ∀ w, (binOp .neq 27 (.agg k.vals.toArray) (.agg k.vals.toArray)).run Try.prog w = .ok (.bool false) w := neqLe k k true (Le.same_self k)
      have la : ∀ w', (∃ p : Regrown, w' = grow (redrawn wr p.d) p.os) → w'.rangeAt b (o + j * 4) k.vals := fun w' ⟨p, e⟩ => e ▸ range_block hr ((below_regrown wr p.d p.os).block b hbl)
      have lb : ∀ w', (∃ p : Regrown, w' = grow (redrawn wr p.d) p.os) → w'.rangeAt b' (o' + j * 4) k.vals := fun w' ⟨p, e⟩ => e ▸ range_block hr' ((below_regrown wr p.d p.os).block b' hbl')
      clear hk hr hr' hbl hbl'
      go_upto_region 6 with fail
      try simp only [Act.put, List.setIfInBounds_toArray, List.set_cons_zero, List.set_cons_succ]
      refine wp_region_quiet_below (by kernel_rfl) (by kernel_rfl) ?_
      repeat (first
        | (go_big_quiet_want; refine quiet_range (off := o + j * 4) rfl rfl la Try.underlying27 rfl sizeLe ?_; simp only [Act.put, List.setIfInBounds_toArray, List.set_cons_zero, List.set_cons_succ]; go_big_quiet_on)
        | (go_big_quiet_want; refine quiet_range (off := o' + j * 4) rfl rfl lb Try.underlying27 rfl sizeLe ?_; simp only [Act.put, List.setIfInBounds_toArray, List.set_cons_zero, List.set_cons_succ]; go_big_quiet_on)
        | go_big_quiet_step (fail))
      refine wpQuiet_nil ?_
      intro _ hw'
      obtain ⟨⟨dq, osq⟩, hw''⟩ := hw'
      have hb := below_regrown wr dq osq
      subst hw''
      generalize grow (redrawn wr dq) osq = w1 at hb ⊢
      replace hA := hA.below hb
      replace hC := hC.below hb
      replace hB := hB.trans (hb.mono hB.size)
      clear hb
      clear la lb kK
      go_wp2_with fail
      exact ⟨⟨j + 1, by omega, by go_num, hA, hC, hB⟩, by simp [intOf]; omega⟩
    · obtain rfl : j = n := by omega
      clear hA hC
      go_wp2_with fail
      go_ret
      exact ⟨rfl, hB⟩

theorem box_le3 {ops : Array Oper} {rest : List Oper} {op : Oper} {a : Act} {w : World} {Q : Exit → Act → World → Prop} (hgd : op.guard = none) (x y z : Operand) (ho : op.op = .buildSlice 22 3 #[(0, x), (1, y), (2, z)]) (p q r : Le) (hx : a.eval x = .agg p.arr) (hy : a.eval y = .agg q.arr) (hz : a.eval z = .agg r.arr)
    (h : ∀ W, Ow Le.vals 4 27 w.heap.size 3 [p, q, r] W → Below w.heap.size w W → wpList Try.prog ops Q rest (a.put op.dst (.slice (some ⟨w.heap.size, 0, none⟩) 3 3)) W) : wpList Try.prog ops Q (op :: rest) a w :=
  wpList_plain hgd fun _ hK => by
    have hk := hK _ _ (h (w.alloc (.cells (p.vals ++ (q.vals ++ r.vals)).toArray 27)) ⟨_, blk_new w _ _, by simp, by simp [maxLen], rfl, by simp [flat, Le.vals]⟩ (below_box w _))
    unfold Oper.wp execOp
    simp only [ho, List.map_toArray, List.map_cons, List.map_nil, hx, hy, hz, Sem.run_bind, Sem.run_pure, bsLe3, Result.andThen_ok]
    exact hk

def lA : Le := ⟨0, 1, ⟨#[97]⟩, false⟩
def lB : Le := ⟨0, 1, ⟨#[98]⟩, false⟩
def lC : Le := ⟨0, 1, ⟨#[99]⟩, false⟩
def thr : List Le := [lA, lB, lC]
def Thrd (B : Nat) (e : Ending) (w' : World) : Prop := ∃ a, e = .returned (.slice a 3 3) ∧ Lg Le.vals 4 27 B a 3 thr w'

theorem lthree_ok (w : World) : Calls Try.prog 25 #[] w fun e w' => Thrd w.heap.size e w' ∧ Below w.heap.size w w' := by
  go_enter Try.func25, Try.ntmps25
  go_wp2_with (first
    | refine build_as rfl 27 #[(1, .const (.int .i64 1)), (2, .const (.string ⟨#[97]⟩))] rfl (C := lA.arr) (by kernel_rfl) ?_
    | refine build_as rfl 27 #[(1, .const (.int .i64 1)), (2, .const (.string ⟨#[98]⟩))] rfl (C := lB.arr) (by kernel_rfl) ?_
    | refine build_as rfl 27 #[(1, .const (.int .i64 1)), (2, .const (.string ⟨#[99]⟩))] rfl (C := lC.arr) (by kernel_rfl) ?_
    | (refine box_le3 rfl _ _ _ rfl lA lB lC rfl rfl rfl ?_; intro W h0 hB))
  go_ret
  exact ⟨⟨_, rfl, Lg.of h0 (Nat.le_refl _)⟩, hB⟩

end Go.Proofs.Ythkfolohhdafkaa
