/-
  slices.Clone of records; the document's Same: what each call answers.
  Each theorem says its own conditions.
-/
import Derived.Test.YtehmcncclpimjaaDoorAu
import Derived.Test.YtehmcncclpimjaaDoorLn
namespace Go.Proofs.YtehmcncclpimjaaDoor
set_option maxRecDepth 10000
open Go.ChangeShapes Go.WideShapes Go.ChangeAt Go.RowKit Go.WideElems Go.Sort
set_option linter.unusedVariables false
set_option linter.unusedSimpArgs false

/- A list that was made since there were B blocks. -/
def MadeRc (L : List Rc) (B : Nat) (e : Ending) (w' : World) : Prop := ∃ a c, e = .returned (.slice a L.length c) ∧ Lg Rc.vals 4 27 B a c L w'

set_option maxHeartbeats 1000000 in
theorem rcclone_ok (L : List Rc) (la : Option Addr) (lc : Nat) (hl : L.length * 40 ≤ 140737488355328) (w : World) (hS : Li Rc.vals 0 la L w) : Calls Tryd.prog 26 #[.slice la L.length lc] w fun e w' => MadeRc L w.heap.size e w' ∧ Below w.heap.size w w' := by
  obtain ⟨iI, zI, hI, hz0, hsz, hby, hzs⟩ := infoRc
  cases la with
  | none =>
    obtain rfl : L = [] := by
      rcases hS with h | ⟨_, _, h, _⟩
      · exact h
      · cases h
    have HC : MadeRc [] w.heap.size (.returned (.slice none 0 0)) w := ⟨none, 0, rfl, Lg.none _ _ _⟩
    have hq : ∀ w, (binOp .eql 22 (.slice none 0 lc) (.slice none 0 0)).run Tryd.prog w = .ok (.bool true) w := fun w => by kernel_rfl
    clear hS hI
    show Calls Tryd.prog 26 #[.slice none 0 lc] w _
    go_enter Tryd.func26, Tryd.ntmps26
    go_wp2_with fail
    go_ret
    exact ⟨HC, Below.refl _ _⟩
  | some ad =>
    have b1 := blk_new w #[] 27
    have hB : Below w.heap.size w (w.alloc (.cells #[] 27)) := below_box w _
    have hS1 := hS.below hB
    have hx := hS1.src (P := Tryd.prog) Rc.vals_length Rc.vals_one Tryd.underlying22 lc
    have ho : Ow Rc.vals 4 27 w.heap.size 0 [] (w.alloc (.cells #[] 27)) := Ow.empty b1
    obtain ⟨n, hn⟩ : ∃ n, Hid (L.length = n) := ⟨_, rfl⟩
    rw [hn.out] at hl hx ⊢
    have hq : ∀ w, (binOp .eql 22 (.slice (some ad) n lc) (.slice none 0 0)).run Tryd.prog w = .ok (.bool false) w := fun w => by kernel_rfl
    clear hS hS1 b1
    go_enter Tryd.func26, Tryd.ntmps26
    go_wp2_with (first | refine box_Rc0 rfl rfl ?_ | (refine append_ow Rc.vals_length rfl _ _ rfl Tryd.underlying22 hI hz0 hsz hby hzs ho rfl (M := L) (by rw [hn.out]; exact hx) rfl (by simp [hn.out]; omega) (by simp [maxLen, hn.out]; omega) ?_; intro g' cap' w5 hg5 hb5 hc5; have hB6 : Below w.heap.size w w5 := hB.trans (hb5.below (by simp) hB.size)))
    go_ret
    refine ⟨⟨some ⟨g', 0, none⟩, cap', by simp, Lg.of (by simpa using hg5) (by rcases hc5 with rfl | h <;> simp at * <;> omega)⟩, hB6⟩

set_option maxHeartbeats 1000000 in
theorem rsameC_ok (L : List Rc) (la lb : Option Addr) (lc ld : Nat) (lm : L.length ≤ 9223372036854775807) (w : World) (hA : Li Rc.vals 0 la L w) (hC : Li Rc.vals 0 lb L w) : Calls Tryd.prog 11 #[.slice la L.length lc, .slice lb L.length ld] w fun e w' => e = .returned (.bool true) ∧ Below w.heap.size w w' := by
  obtain ⟨n, hn⟩ : ∃ n, Hid (L.length = n) := ⟨_, rfl⟩
  rw [hn.out] at lm ⊢
  have n0 : ((n : Int) != (n : Int)) = false := by simp
  go_enter Tryd.func11, Tryd.ntmps11
  go_wp2_with fail
  clear n0
  go_loopw [5] (fun iv wr => ∃ j : Nat, j ≤ n ∧ iv = .int .i64 j ∧ Li Rc.vals 0 la L wr ∧ Li Rc.vals 0 lb L wr ∧ Below w.heap.size w wr) (fun iv _ => n - (intOf iv).toNat)
  case atStart => exact ⟨0, by omega, rfl, hA, hC, Below.refl _ _⟩
  case round =>
    clear hA hC
    obtain ⟨j, hj, rfl, hA, hC, hB⟩ := hrel
    by_cases hjn : j < n
    · have j0 : (j : Int) < (n : Int) := by omega
      have j1 : (0 : Int) ≤ (j : Int) := by omega
      obtain ⟨k, hk⟩ : ∃ k, L[j]? = some k := ⟨_, List.getElem?_eq_getElem (by rw [hn.out]; exact hjn)⟩
      obtain ⟨b, o, rfl, _, hbl, hr⟩ := hA.at Rc.vals_length j k hk
      obtain ⟨b', o', rfl, _, hbl', hr'⟩ := hC.at Rc.vals_length j k hk
      have kK : ∀ w, (binOp .neq 27 (.agg k.vals.toArray) (.agg k.vals.toArray)).run Tryd.prog w = .ok (.bool false) w := neqRc k k true (Rc.same_self k)
      have la : ∀ w', (∃ p : Regrown, w' = grow (redrawn wr p.d) p.os) → w'.rangeAt b (o + j * 4) k.vals := fun w' ⟨p, e⟩ => e ▸ range_block hr ((below_regrown wr p.d p.os).block b hbl)
      have lb : ∀ w', (∃ p : Regrown, w' = grow (redrawn wr p.d) p.os) → w'.rangeAt b' (o' + j * 4) k.vals := fun w' ⟨p, e⟩ => e ▸ range_block hr' ((below_regrown wr p.d p.os).block b' hbl')
      clear hk hr hr' hbl hbl'
      go_upto_region 6 with fail
      try simp only [Act.put, List.setIfInBounds_toArray, List.set_cons_zero, List.set_cons_succ]
      refine wp_region_quiet_below (by kernel_rfl) (by kernel_rfl) ?_
      repeat (first
        | (go_big_quiet_want; refine quiet_range (off := o + j * 4) rfl rfl la Tryd.underlying27 rfl sizeRc ?_; simp only [Act.put, List.setIfInBounds_toArray, List.set_cons_zero, List.set_cons_succ]; go_big_quiet_on)
        | (go_big_quiet_want; refine quiet_range (off := o' + j * 4) rfl rfl lb Tryd.underlying27 rfl sizeRc ?_; simp only [Act.put, List.setIfInBounds_toArray, List.set_cons_zero, List.set_cons_succ]; go_big_quiet_on)
        | go_big_quiet_step (fail))
      refine wpQuiet_nil ?_
      intro _ hw'
      obtain ⟨⟨dq, osq⟩, hw''⟩ := hw'
      have hb := below_regrown wr dq osq
      subst hw''
      generalize grow (redrawn wr dq) osq = w1 at hb ⊢
      replace hA := hA.below hb
      replace hC := hC.below hb
      replace hB := hB.trans (hb.mono hB.size)
      clear hb
      clear la lb kK
      go_wp2_with fail
      exact ⟨⟨j + 1, by omega, by go_num, hA, hC, hB⟩, by simp [intOf]; omega⟩
    · obtain rfl : j = n := by omega
      clear hA hC
      go_wp2_with fail
      go_ret
      exact ⟨rfl, hB⟩

end Go.Proofs.YtehmcncclpimjaaDoor
