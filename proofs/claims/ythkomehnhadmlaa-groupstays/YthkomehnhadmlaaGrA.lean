/-
  slices.Clone, IndexFunc and DeleteFunc of members, by any question that captures one variable; the document's Same: what each call answers.
  Each theorem says its own conditions.
-/
import Derived.Test.YthkomehnhadmlaaGr
import Derived.Test.YthkomehnhadmlaaLn
namespace Go.Proofs.Ythkomehnhadmlaa
set_option maxRecDepth 10000
open Go.ChangeShapes Go.WideShapes Go.ChangeAt Go.RowKit Go.WideElems Go.Sort
set_option linter.unusedVariables false
set_option linter.unusedSimpArgs false

/- A list that was made since there were B blocks. -/
def MadeMr (L : List Mr) (B : Nat) (e : Ending) (w' : World) : Prop := ∃ a c, e = .returned (.slice a L.length c) ∧ Lg Mr.vals 3 35 B a c L w'

set_option maxHeartbeats 1000000 in
theorem mclone_ok (L : List Mr) (la : Option Addr) (lc : Nat) (hl : L.length * 24 ≤ 140737488355328) (w : World) (hS : Li Mr.vals 0 la L w) : Calls Try.prog 21 #[.slice la L.length lc] w fun e w' => MadeMr L w.heap.size e w' ∧ Below w.heap.size w w' := by
  obtain ⟨iI, zI, hI, hz0, hsz, hby, hzs⟩ := infoMr
  cases la with
  | none =>
    obtain rfl : L = [] := by
      rcases hS with h | ⟨_, _, h, _⟩
      · exact h
      · cases h
    have HC : MadeMr [] w.heap.size (.returned (.slice none 0 0)) w := ⟨none, 0, rfl, Lg.none _ _ _⟩
    have hq : ∀ w, (binOp .eql 22 (.slice none 0 lc) (.slice none 0 0)).run Try.prog w = .ok (.bool true) w := fun w => by kernel_rfl
    clear hS hI
    show Calls Try.prog 21 #[.slice none 0 lc] w _
    go_enter Try.func21, Try.ntmps21
    go_wp2_with fail
    go_ret
    exact ⟨HC, Below.refl _ _⟩
  | some ad =>
    have b1 := blk_new w #[] 35
    have hB : Below w.heap.size w (w.alloc (.cells #[] 35)) := below_box w _
    have hS1 := hS.below hB
    have hx := hS1.src (P := Try.prog) Mr.vals_length Mr.vals_one Try.underlying22 lc
    have ho : Ow Mr.vals 3 35 w.heap.size 0 [] (w.alloc (.cells #[] 35)) := Ow.empty b1
    obtain ⟨n, hn⟩ : ∃ n, Hid (L.length = n) := ⟨_, rfl⟩
    rw [hn.out] at hl hx ⊢
    have hq : ∀ w, (binOp .eql 22 (.slice (some ad) n lc) (.slice none 0 0)).run Try.prog w = .ok (.bool false) w := fun w => by kernel_rfl
    clear hS hS1 b1
    go_enter Try.func21, Try.ntmps21
    go_wp2_with (first | refine box_Mr0 rfl rfl ?_ | (refine append_ow Mr.vals_length rfl _ _ rfl Try.underlying22 hI hz0 hsz hby hzs ho rfl (M := L) (by rw [hn.out]; exact hx) rfl (by simp [hn.out]; omega) (by simp [maxLen, hn.out]; omega) ?_; intro g' cap' w5 hg5 hb5 hc5; have hB6 : Below w.heap.size w w5 := hB.trans (hb5.below (by simp) hB.size)))
    go_ret
    refine ⟨⟨some ⟨g', 0, none⟩, cap', by simp, Lg.of (by simpa using hg5) (by rcases hc5 with rfl | h <;> simp at * <;> omega)⟩, hB6⟩

/- What IndexFunc hands back: the first one's place, or -1. -/
def IxMr (q : Mr → Bool) (L : List Mr) (e : Ending) : Prop := (∃ j k, e = .returned (.int .i64 ((j : Nat) : Int)) ∧ L[j]? = some k ∧ q k = true ∧ ∀ k' ∈ L.take j, q k' = false) ∨ (e = .returned (.int .i64 (-1)) ∧ ∀ k ∈ L, q k = false)

set_option maxHeartbeats 2000000 in
theorem ixm_ok (f : Nat) (v1 : Value) (q : Mr → Bool) (he : Enters f) (I : World → Prop) (hI : ∀ w w', I w → Below w.heap.size w w' → I w') (L : List Mr) (hf : ∀ k w, I w → Calls Try.prog f #[.agg k.arr, v1] w fun e w' => e = .returned (.bool (q k)) ∧ Below w.heap.size w w')
    (la : Option Addr) (lc : Nat) (lm : L.length ≤ 9223372036854775807) (w : World) (hS : Li Mr.vals 0 la L w) (hw : I w) : Calls Try.prog 36 #[.slice la L.length lc, .func (.func f) #[] #[v1]] w fun e w' => IxMr q L e ∧ Below w.heap.size w w' := by
  obtain ⟨n, hn⟩ : ∃ n, L.length = n := ⟨_, rfl⟩
  rw [hn] at lm ⊢
  have HN : Hid (L.length = n) := hn
  clear hn
  go_enter Try.func36, Try.ntmps36
  go_wp2_with fail
  go_loopw [8] (fun iv wr => ∃ j : Nat, j ≤ n ∧ iv = .int .i64 j ∧ Hid (∀ k ∈ L.take j, q k = false) ∧ Li Mr.vals 0 la L wr ∧ I wr ∧ Below w.heap.size w wr) (fun iv _ => n - (intOf iv).toNat)
  case atStart => exact ⟨0, by omega, rfl, fun d h => by simp at h, hS, hw, Below.refl _ _⟩
  case round =>
    clear hS hw
    obtain ⟨j, hj, rfl, h0, hS, hX, hB⟩ := hrel
    by_cases hjn : j < n
    · have j0 : (j : Int) < (n : Int) := by omega
      have j1 : (0 : Int) ≤ (j : Int) := by omega
      obtain ⟨k, hk⟩ : ∃ k, L[j]? = some k := ⟨_, List.getElem?_eq_getElem (by rw [HN.out]; exact hjn)⟩
      obtain ⟨b, o, rfl, _, hbl, hr⟩ := hS.at Mr.vals_length j k hk
      have pk := hf k wr hX
      obtain ⟨t, ht⟩ : ∃ t, q k = t := ⟨_, rfl⟩
      have HT : Hid (q k = t) := ht
      rw [ht] at pk
      clear ht
      go_wp2_with (refine load_range rfl 35 _ rfl k.vals hr rfl Try.underlying35 rfl sizeMr ?_)
      rw [he, Oper.upon_enter]
      refine pk.mono ?_
      rintro r w1 ⟨rfl, hb⟩
      replace hS := hS.below hb
      replace hX := hI _ _ hX hb
      replace hB := hB.trans (hb.mono hB.size)
      clear hb pk hr
      cases t with
      | true =>
        have HF : IxMr q L (.returned (.int .i64 (j : Int))) := .inl ⟨j, k, rfl, hk, HT.out, h0.out⟩
        clear HT h0 hk hS hX
        go_wp2_with fail
        go_ret
        exact ⟨HF, hB⟩
      | false =>
        have HS : Hid (∀ k ∈ L.take (j + 1), q k = false) := by
          intro e he
          rw [List.take_add_one, hk] at he
          rcases List.mem_append.1 he with he | he
          · exact h0.out e he
          · simp at he
            rw [he]
            exact HT.out
        clear HT h0 hk
        go_wp2_with fail
        exact ⟨⟨j + 1, by omega, by go_num, HS, hS, hX, hB⟩, by simp [intOf]; omega⟩
    · obtain rfl : j = n := by omega
      have HF : IxMr q L (.returned (.int .i64 (-1))) := .inr ⟨rfl, fun k hk => h0.out k (by rw [List.take_of_length_le (by rw [HN.out]; omega)]; exact hk)⟩
      clear h0 HN hS hX
      go_wp2_with fail
      go_ret
      exact ⟨HF, hB⟩

theorem elemMr : Try.prog.elem 22 = 35 := by kernel_rfl
theorem sizeOfMr (w : World) : (sizeOf 35).run Try.prog w = .ok 3 w := by kernel_rfl
theorem zeroOfMr (w : World) : (zeroValue 35).run Try.prog w = .ok (.agg Mr.zero.arr) w := by kernel_rfl
def DelMr (q : Mr → Bool) (L : List Mr) (B : Nat) (ad : Option Addr) (cap : Nat) (e : Ending) (w' : World) : Prop := e = .returned (.slice ad (offL q L).length cap) ∧ Lg Mr.vals 3 35 B ad cap (offL q L) w'

set_option maxHeartbeats 1000000 in
theorem rsameM_ok (L : List Mr) (la lb : Option Addr) (lc ld : Nat) (lm : L.length ≤ 9223372036854775807) (w : World) (hA : Li Mr.vals 0 la L w) (hC : Li Mr.vals 0 lb L w) : Calls Try.prog 12 #[.slice la L.length lc, .slice lb L.length ld] w fun e w' => e = .returned (.bool true) ∧ Below w.heap.size w w' := by
  obtain ⟨n, hn⟩ : ∃ n, Hid (L.length = n) := ⟨_, rfl⟩
  rw [hn.out] at lm ⊢
  have n0 : ((n : Int) != (n : Int)) = false := by simp
  go_enter Try.func12, Try.ntmps12
  go_wp2_with fail
  clear n0
  go_loopw [5] (fun iv wr => ∃ j : Nat, j ≤ n ∧ iv = .int .i64 j ∧ Li Mr.vals 0 la L wr ∧ Li Mr.vals 0 lb L wr ∧ Below w.heap.size w wr) (fun iv _ => n - (intOf iv).toNat)
  case atStart => exact ⟨0, by omega, rfl, hA, hC, Below.refl _ _⟩
  case round =>
    clear hA hC
    obtain ⟨j, hj, rfl, hA, hC, hB⟩ := hrel
    by_cases hjn : j < n
    · have j0 : (j : Int) < (n : Int) := by omega
      have j1 : (0 : Int) ≤ (j : Int) := by omega
      obtain ⟨k, hk⟩ : ∃ k, L[j]? = some k := ⟨_, List.getElem?_eq_getElem (by rw [hn.out]; exact hjn)⟩
      obtain ⟨b, o, rfl, _, hbl, hr⟩ := hA.at Mr.vals_length j k hk
      obtain ⟨b', o', rfl, _, hbl', hr'⟩ := hC.at Mr.vals_length j k hk
      have kK : ∀ w, (binOp .neq 35 (.agg k.vals.toArray) (.agg k.vals.toArray)).run Try.prog w = .ok (.bool false) w := neqMr k k true (Mr.same_self k)
      have la : ∀ w', (∃ p : Regrown, w' = grow (redrawn wr p.d) p.os) → w'.rangeAt b (o + j * 3) k.vals := fun w' ⟨p, e⟩ => e ▸ range_block hr ((below_regrown wr p.d p.os).block b hbl)
      have lb : ∀ w', (∃ p : Regrown, w' = grow (redrawn wr p.d) p.os) → w'.rangeAt b' (o' + j * 3) k.vals := fun w' ⟨p, e⟩ => e ▸ range_block hr' ((below_regrown wr p.d p.os).block b' hbl')
      clear hk hr hr' hbl hbl'
      go_upto_region 6 with fail
      try simp only [Act.put, List.setIfInBounds_toArray, List.set_cons_zero, List.set_cons_succ]
      refine wp_region_quiet_below (by kernel_rfl) (by kernel_rfl) ?_
      repeat (first
        | (go_big_quiet_want; refine quiet_range (off := o + j * 3) rfl rfl la Try.underlying35 rfl sizeMr ?_; simp only [Act.put, List.setIfInBounds_toArray, List.set_cons_zero, List.set_cons_succ]; go_big_quiet_on)
        | (go_big_quiet_want; refine quiet_range (off := o' + j * 3) rfl rfl lb Try.underlying35 rfl sizeMr ?_; simp only [Act.put, List.setIfInBounds_toArray, List.set_cons_zero, List.set_cons_succ]; go_big_quiet_on)
        | go_big_quiet_step (fail))
      refine wpQuiet_nil ?_
      intro _ hw'
      obtain ⟨⟨dq, osq⟩, hw''⟩ := hw'
      have hb := below_regrown wr dq osq
      subst hw''
      generalize grow (redrawn wr dq) osq = w1 at hb ⊢
      replace hA := hA.below hb
      replace hC := hC.below hb
      replace hB := hB.trans (hb.mono hB.size)
      clear hb
      clear la lb kK
      go_wp2_with fail
      exact ⟨⟨j + 1, by omega, by go_num, hA, hC, hB⟩, by simp [intOf]; omega⟩
    · obtain rfl : j = n := by omega
      clear hA hC
      go_wp2_with fail
      go_ret
      exact ⟨rfl, hB⟩

end Go.Proofs.Ythkomehnhadmlaa
