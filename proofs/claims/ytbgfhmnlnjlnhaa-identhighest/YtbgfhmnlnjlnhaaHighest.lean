/-
  The highest one of some is one of them, or the zero one, and none is above it; in whichever order they come it is the same: the law IdentHighest returns true for every input.
  No condition beyond the form's own.
-/
import Derived.Test.YtbgfhmnlnjlnhaaRows
import Derived.Test.YtbgfhmnlnjlnhaaImH
import Derived.WalkKit
import Derived.ProofKit
import Derived.OpenShut
import Derived.ShutString
import Derived.SizedLaws
import Derived.ChangeOld
import Derived.Below
namespace Go.Proofs.Ytbgfhmnlnjlnhaa.identHighest
open Go.Sort Go.ChangeShapes Go.WideShapes Go.ChangeAt Go.RowKit
open Go.ChangeMaps (open_string shut_string)
set_option linter.unusedVariables false
set_option maxRecDepth 10000

theorem own : ownKnob Try.prog.godebug = none := by kernel_rfl
theorem length_bytes (s : ByteArray) : s.data.toList.length = s.size := by rw [Array.length_toList]; rfl

set_option maxHeartbeats 8000000 in
theorem walk_many (la : Option Addr) (n lc : Nat) (lm : n ≤ 9223372036854775807) (hn : 100 < n) (w : World) : Calls Try.prog 5 #[.slice la n lc] w fun e w' => e = .returned (.bool true) ∧ Below w.heap.size w w' := by
  have h1 : (100 : Int) < (n : Int) := by omega
  go_enter Try.func5, Try.ntmps5
  go_wp2_with fail
  refine (fixed_ok _).mono ?_
  rintro r w1 ⟨rfl, hb⟩
  go_wp2_with fail
  refine (fixed_ok _).mono ?_
  rintro r w2 ⟨rfl, hb2⟩
  go_wp2_with fail
  go_ret
  exact ⟨rfl, hb.trans (hb2.mono hb.size)⟩

set_option maxHeartbeats 16000000 in
theorem walk_few (la : Option Addr) (L : List Idn) (lc : Nat) (hn : L.length ≤ 100) (w : World) (hS : Li Idn.vals 0 la L w) : Calls Try.prog 5 #[.slice la L.length lc] w fun e w' => e = .returned (.bool true) ∧ Below w.heap.size w w' := by
  have hpH : ∀ u : World, Li Idn.vals 0 la L u → Calls Try.prog 19 #[.slice la L.length lc] u fun e w' => e = .returned (.agg (hi L).arr) ∧ Below u.heap.size u w' := fun u h => highest_ok la L lc (by omega) u h
  have hbk : ∀ (u : World) (ad : Option Addr) (c : Nat), Li Idn.vals 0 ad L.reverse u → Calls Try.prog 19 #[.slice ad L.length c] u fun e w' => e = .returned (.agg (hi L).arr) ∧ Below u.heap.size u w' := fun u ad c h => by
    have := highest_ok ad L.reverse c (by rw [List.length_reverse]; omega) u h
    rw [List.length_reverse, hi_reverse] at this
    exact this
  have htop := hi_top L
  have hall := fnd_all L
  obtain ⟨n, hnn⟩ : ∃ n, L.length = n := ⟨_, rfl⟩
  rw [hnn] at hn hpH hbk hall ⊢
  have HN : Hid (L.length = n) := hnn
  obtain ⟨h, hh⟩ : ∃ h, Hid (hi L = h) := ⟨_, rfl⟩
  rw [hh.out] at hpH hbk htop hall
  have HT : Hid (∀ x, x ∈ L → cmpId x h ≤ 0) := fun x hx => by have := htop x hx; omega
  have HA : Hid (fnd L h n = true) := hall
  clear hnn hh htop hall
  have h1 : ¬ (100 : Int) < (n : Int) := by omega
  obtain ⟨iI, zI, hI, hz0, hsz, hby, hzs⟩ := infoIdn
  obtain ⟨f0, hf0⟩ : ∃ f, Hid (fnd L h 0 = f) := ⟨_, rfl⟩
  have keq := eqlIdn h Idn.zero f0 (by rw [← fnd_zero L h]; exact hf0.out)
  go_enter Try.func5, Try.ntmps5
  go_wp2_with fail
  refine (fixed_ok _).mono ?_
  rintro r w1 ⟨rfl, hb1⟩
  go_wp2_with fail
  refine (hpH _ (hS.below hb1)).mono ?_
  rintro r w2 ⟨rfl, hb⟩
  have hB2 := hb1.trans (hb.mono hb1.size)
  have c2 := blk_new w2 h.arr 24
  have hB3 : Below w.heap.size w (w2.alloc (.cells h.arr 24)) := hB2.alloc hB2.size _
  have hlt : w2.heap.size < (w2.alloc (.cells h.arr 24)).heap.size := by simp
  have c2' := c2
  obtain ⟨w3, hw3⟩ : ∃ W, w2.alloc (.cells h.arr 24) = W := ⟨_, rfl⟩
  rw [hw3] at c2 hB3 hlt
  obtain ⟨H, hH⟩ : ∃ H, Hid (w2.heap.size = H) := ⟨_, rfl⟩
  have c4 := c2.alloc (.cells #[] 24)
  have o4 := Ow.empty (f := Idn.vals) (k := 3) (blk_new w3 #[] 24)
  have hB4 : Below w.heap.size w (w3.alloc (.cells #[] 24)) := hB3.alloc hB3.size _
  have hs4 : w3.heap.size ≤ (w3.alloc (.cells #[] 24)).heap.size := by simp
  have hws : w.heap.size ≤ w3.heap.size := hB3.size
  clear hb hb1 hB2 hB3
  go_wp2_with (first | refine alloc_zero zeroIdn rfl rfl ?_ | refine store_new rfl 24 _ _ rfl rfl rfl h.size rfl h.arr_one ?_ | refine load_blk rfl 24 _ rfl c2' rfl Try.underlying24 rfl h.size ?_ | refine build_zero builtIdn rfl rfl ?_)
  go_loopw [4, 5, 6] (fun fv bv iv wr => ∃ (j : Nat) (f : Bool) (ad : Option Addr) (cap : Nat), j ≤ n ∧ iv = .int .i64 j ∧ fv = .bool f ∧ bv = .slice ad j cap ∧ Hid (fnd L h j = f) ∧ Lg Idn.vals 3 24 w3.heap.size ad cap (L.reverse.take j) wr ∧ Blk w2.heap.size h.arr 24 wr ∧ Below w.heap.size w wr ∧ w3.heap.size ≤ wr.heap.size) (fun _ _ iv _ => n - (intOf iv).toNat)
  case atStart => exact ⟨0, f0, _, 0, by omega, rfl, rfl, rfl, hf0, Lg.of o4 (Nat.le_refl _), c4, hB4, hs4⟩
  case round =>
    clear c2 c2' c4 o4 hB4 hs4 keq hw3 hf0
    obtain ⟨j, f, ad, cap, hj, rfl, rfl, rfl, hf, hg, hc, hB, hs⟩ := hrel
    by_cases hjn : j < n
    · have j0 : (j : Int) < (n : Int) := by omega
      have j1 : (0 : Int) ≤ (j : Int) := by omega
      obtain ⟨x, hx⟩ : ∃ x, L[j]? = some x := ⟨_, List.getElem?_eq_getElem (by rw [HN.out]; exact hjn)⟩
      have hmem : x ∈ L := List.mem_of_getElem? hx
      obtain ⟨y, hy⟩ : ∃ y, L[n - 1 - j]? = some y := ⟨_, List.getElem?_eq_getElem (by rw [HN.out]; omega)⟩
      have hst := fnd_step L h j x hx
      have hbs := back_step L j y (by rw [HN.out]; exact hjn) (by rw [HN.out]; exact hy)
      obtain ⟨b, o, rfl, _, hbl, hr⟩ := hS.at Idn.vals_length j x hx
      obtain ⟨b', o', e', _, _, hr'⟩ := hS.at Idn.vals_length (n - 1 - j) y hy
      injection e' with e'
      injection e' with e1 e2 e3
      subst e1 e2
      obtain ⟨c, hcc⟩ : ∃ c, Hid (cmpId x h = c) := ⟨_, rfl⟩
      have hgt : ¬ 0 < c := by have := HT.out x hmem; rw [hcc.out] at this; omega
      have hrx := range_block hr (hB.block b hbl)
      have qx : ∀ w', (∃ p : Regrown, w' = grow (redrawn wr p.d) p.os) → w'.rangeAt b (o + j * 3) x.vals := by
        rintro w' ⟨p, rfl⟩
        exact range_block hrx ((below_regrown wr p.d p.os).block b (Nat.lt_of_lt_of_le hbl hB.size))
      have qh := hc.regrown
      clear hx hy hmem
      cases f with
      | true =>
        have HF : Hid (fnd L h (j + 1) = true) := by rw [hst, hf.out]; rfl
        clear hst
        go_wp2_with fail
        refine wp_region_quiet_below (by kernel_rfl) (by kernel_rfl) ?_
        repeat (go_big_quiet_step (fail))
        refine wpQuiet_nil ?_
        intro _ hw'
        obtain ⟨⟨dq, osq⟩, hw''⟩ := hw'
        have hb := below_regrown wr dq osq
        subst hw''
        generalize grow (redrawn wr dq) osq = w4 at hb ⊢
        have hc := hc.below hb
        have hg := hg.below hb
        have hB := hB.trans (hb.mono hB.size)
        have hs := Nat.le_trans hs hb.size
        clear hb qx qh hrx
        have hry := range_block hr' (hB.block b hbl)
        have hrx := range_block hr (hB.block b hbl)
        have hg2 := hg.below (below_box w4 (.cells y.arr 24))
        have hx2 := (li_box (f := Idn.vals) w4 y 24 0 (Nat.zero_le _)).src (P := Try.prog) Idn.vals_length Idn.vals_one Try.underlying41 1
        have hs2 : w3.heap.size ≤ (w4.alloc (.cells y.arr 24)).heap.size := by rw [alloc_size]; omega
        have hB2 : Below w.heap.size w (w4.alloc (.cells y.arr 24)) := hB.alloc hB.size _
        have hc2 := hc.alloc (.cells y.arr 24)
        have hlen : (L.reverse.take j).length = j := by rw [List.length_take, List.length_reverse, HN.out]; omega
        have p0 : ∀ u : World, ∀ d os, Calls Try.prog 11 #[.agg x.vals.toArray, .agg h.arr] (grow (redrawn u d) os) fun e w'' => e = .returned (.int .i64 c) ∧ ∃ p : Regrown, w'' = grow (redrawn u p.d) p.os := fun u d os => Calls.regrown_of (by rw [← hcc.out]; exact cmp_ok x h _)
        clear hbk hpH hg hc hB hs
        go_wp2_with (first | refine load_range rfl 24 _ rfl y.vals hry rfl Try.underlying24 rfl sizeIdn ?_ | refine box_id rfl _ rfl y rfl ?_ | (refine append_lg Idn.vals_length rfl _ _ rfl Try.underlying41 hI hz0 hsz hby hzs hg2 hs2 hlen rfl (M := [y]) (by simp) hx2 rfl (by simp; omega) (by simp [maxLen]; omega) ?_; intro ad' cap' w5 hg5 hb5; rw [← hbs] at hg5; have hB6 : Below w.heap.size w w5 := hB2.trans (hb5.mono (by omega)); have hs6 : w3.heap.size ≤ w5.heap.size := Nat.le_trans hs2 hb5.size; have hc6 : Blk w2.heap.size h.arr 24 w5 := (hb5.block _ (by omega)).trans hc2))
        have hrx := range_block hr (hB6.block b hbl)
        have qx : ∀ w', (∃ p : Regrown, w' = grow (redrawn w5 p.d) p.os) → w'.rangeAt b (o + j * 3) x.vals := by
          rintro w' ⟨p, rfl⟩
          exact range_block hrx ((below_regrown w5 p.d p.os).block b (Nat.lt_of_lt_of_le hbl hB6.size))
        have qh := hc6.regrown
        have p0 := p0 w5
        refine wp_region_quiet_below (by kernel_rfl) (by kernel_rfl) ?_
        repeat (first
          | (go_big_quiet_want; refine quiet_range rfl rfl qx Try.underlying24 rfl sizeIdn ?_; simp only [Act.put, List.setIfInBounds_toArray, List.set_cons_zero, List.set_cons_succ]; go_big_quiet_on)
          | (go_big_quiet_want; refine quiet_load rfl rfl qh Try.underlying24 rfl (Idn.size _) ?_; simp only [Act.put, List.setIfInBounds_toArray, List.set_cons_zero, List.set_cons_succ]; go_big_quiet_on)
          | go_big_quiet_step (with_reducible exact p0 _ _))
        refine wpQuiet_nil ?_
        intro _ hw'
        obtain ⟨⟨dq2, osq2⟩, hw''⟩ := hw'
        have hb := below_regrown w5 dq2 osq2
        subst hw''
        generalize grow (redrawn w5 dq2) osq2 = w6 at hb ⊢
        have hc7 := hc6.below hb
        have hg7 := hg5.below hb
        have hB7 := hB6.trans (hb.mono hB6.size)
        have hs7 := Nat.le_trans hs6 hb.size
        clear hb qx qh hrx p0 hc6 hg5 hB6 hs6
        go_wp2_with fail
        exact ⟨⟨j + 1, _, ad', cap', by omega, by go_num, rfl, rfl, HF, hg7, hc7, hB7, hs7⟩, by simp [intOf]; omega⟩
      | false =>
        rw [hf.out, Bool.false_or] at hst
        obtain ⟨s, hss⟩ : ∃ s, Hid (Idn.same x h = s) := ⟨_, rfl⟩
        rw [hss.out] at hst
        have HF : Hid (fnd L h (j + 1) = s) := hst
        have keq := eqlIdn x h s hss.out
        change ∀ w, (binOp .eql 24 (.agg x.vals.toArray) (.agg h.arr)).run Try.prog w = .ok (.bool s) w at keq
        clear hst
        go_wp2_with fail
        refine wp_region_quiet_below (by kernel_rfl) (by kernel_rfl) ?_
        repeat (first
          | (go_big_quiet_want; refine quiet_range rfl rfl qx Try.underlying24 rfl sizeIdn ?_; simp only [Act.put, List.setIfInBounds_toArray, List.set_cons_zero, List.set_cons_succ]; go_big_quiet_on)
          | (go_big_quiet_want; refine quiet_load rfl rfl qh Try.underlying24 rfl (Idn.size _) ?_; simp only [Act.put, List.setIfInBounds_toArray, List.set_cons_zero, List.set_cons_succ]; go_big_quiet_on)
          | go_big_quiet_step (fail))
        refine wpQuiet_nil ?_
        intro _ hw'
        obtain ⟨⟨dq, osq⟩, hw''⟩ := hw'
        have hb := below_regrown wr dq osq
        subst hw''
        generalize grow (redrawn wr dq) osq = w4 at hb ⊢
        have hc := hc.below hb
        have hg := hg.below hb
        have hB := hB.trans (hb.mono hB.size)
        have hs := Nat.le_trans hs hb.size
        clear hb qx qh hrx
        have hry := range_block hr' (hB.block b hbl)
        have hrx := range_block hr (hB.block b hbl)
        have hg2 := hg.below (below_box w4 (.cells y.arr 24))
        have hx2 := (li_box (f := Idn.vals) w4 y 24 0 (Nat.zero_le _)).src (P := Try.prog) Idn.vals_length Idn.vals_one Try.underlying41 1
        have hs2 : w3.heap.size ≤ (w4.alloc (.cells y.arr 24)).heap.size := by rw [alloc_size]; omega
        have hB2 : Below w.heap.size w (w4.alloc (.cells y.arr 24)) := hB.alloc hB.size _
        have hc2 := hc.alloc (.cells y.arr 24)
        have hlen : (L.reverse.take j).length = j := by rw [List.length_take, List.length_reverse, HN.out]; omega
        have p0 : ∀ u : World, ∀ d os, Calls Try.prog 11 #[.agg x.vals.toArray, .agg h.arr] (grow (redrawn u d) os) fun e w'' => e = .returned (.int .i64 c) ∧ ∃ p : Regrown, w'' = grow (redrawn u p.d) p.os := fun u d os => Calls.regrown_of (by rw [← hcc.out]; exact cmp_ok x h _)
        clear hbk hpH hg hc hB hs
        go_wp2_with (first | refine load_range rfl 24 _ rfl y.vals hry rfl Try.underlying24 rfl sizeIdn ?_ | refine box_id rfl _ rfl y rfl ?_ | (refine append_lg Idn.vals_length rfl _ _ rfl Try.underlying41 hI hz0 hsz hby hzs hg2 hs2 hlen rfl (M := [y]) (by simp) hx2 rfl (by simp; omega) (by simp [maxLen]; omega) ?_; intro ad' cap' w5 hg5 hb5; rw [← hbs] at hg5; have hB6 : Below w.heap.size w w5 := hB2.trans (hb5.mono (by omega)); have hs6 : w3.heap.size ≤ w5.heap.size := Nat.le_trans hs2 hb5.size; have hc6 : Blk w2.heap.size h.arr 24 w5 := (hb5.block _ (by omega)).trans hc2))
        have hrx := range_block hr (hB6.block b hbl)
        have qx : ∀ w', (∃ p : Regrown, w' = grow (redrawn w5 p.d) p.os) → w'.rangeAt b (o + j * 3) x.vals := by
          rintro w' ⟨p, rfl⟩
          exact range_block hrx ((below_regrown w5 p.d p.os).block b (Nat.lt_of_lt_of_le hbl hB6.size))
        have qh := hc6.regrown
        have p0 := p0 w5
        refine wp_region_quiet_below (by kernel_rfl) (by kernel_rfl) ?_
        repeat (first
          | (go_big_quiet_want; refine quiet_range rfl rfl qx Try.underlying24 rfl sizeIdn ?_; simp only [Act.put, List.setIfInBounds_toArray, List.set_cons_zero, List.set_cons_succ]; go_big_quiet_on)
          | (go_big_quiet_want; refine quiet_load rfl rfl qh Try.underlying24 rfl (Idn.size _) ?_; simp only [Act.put, List.setIfInBounds_toArray, List.set_cons_zero, List.set_cons_succ]; go_big_quiet_on)
          | go_big_quiet_step (with_reducible exact p0 _ _))
        refine wpQuiet_nil ?_
        intro _ hw'
        obtain ⟨⟨dq2, osq2⟩, hw''⟩ := hw'
        have hb := below_regrown w5 dq2 osq2
        subst hw''
        generalize grow (redrawn w5 dq2) osq2 = w6 at hb ⊢
        have hc7 := hc6.below hb
        have hg7 := hg5.below hb
        have hB7 := hB6.trans (hb.mono hB6.size)
        have hs7 := Nat.le_trans hs6 hb.size
        clear hb qx qh hrx p0 hc6 hg5 hB6 hs6
        go_wp2_with fail
        exact ⟨⟨j + 1, _, ad', cap', by omega, by go_num, rfl, rfl, HF, hg7, hc7, hB7, hs7⟩, by simp [intOf]; omega⟩
    · obtain rfl : j = n := by omega
      obtain rfl : f = true := by rw [← hf.out]; exact HA.out
      rw [List.take_of_length_le (by rw [List.length_reverse, HN.out]; omega)] at hg
      have p0 : ∀ d os, Calls Try.prog 19 #[.slice ad j cap] (grow (redrawn wr d) os) fun e w'' => e = .returned (.agg h.arr) ∧ ∃ p : Regrown, w'' = grow (redrawn wr p.d) p.os := fun d os => Calls.regrown_of (hbk _ ad cap ((hg.li.mono (Nat.zero_le _)).below (below_regrown wr d os)))
      have qh := hc.regrown
      have keq := eqlIdn h h true (Idn.same_self _)
      clear hbk hpH hg hc HT HA HN hf hS
      go_wp2_with fail
      refine wp_region_quiet_below (by kernel_rfl) (by kernel_rfl) ?_
      repeat (first
        | (go_big_quiet_want; refine quiet_load rfl rfl qh Try.underlying24 rfl (Idn.size _) ?_; simp only [Act.put, List.setIfInBounds_toArray, List.set_cons_zero, List.set_cons_succ]; go_big_quiet_on)
        | go_big_quiet_step (with_reducible exact p0 _ _))
      refine wpQuiet_nil ?_
      intro _ hw'
      obtain ⟨⟨dq, osq⟩, hw''⟩ := hw'
      subst hw''
      go_wp2_with fail
      go_ret
      exact ⟨rfl, hB.trans ((below_regrown wr dq osq).mono hB.size)⟩

theorem walk (la : Option Addr) (L : List Idn) (lc : Nat) (lm : L.length ≤ maxLen) (w : World) (hS : Li Idn.vals 0 la L w) : Calls Try.prog 5 #[.slice la L.length lc] w fun e w' => e = .returned (.bool true) ∧ Below w.heap.size w w' := by
  have hm : L.length ≤ 9223372036854775807 := lm
  by_cases hn : 100 < L.length
  · exact walk_many la _ lc hm hn w
  · exact walk_few la L lc (by omega) w hS

set_option maxRecDepth 100000 in
theorem lifted (os : Os) (started : os.Started) (H : Type) (enc : TypeId × Value → H) :
    ReturnsInHanded {} Try.checked os 5 .any (Rows.identHighestSpec.pre6 enc Try.prog Try.f5 Rows.identHighestRow.domain false) (Rows.identHighestSpec.post enc Try.prog Try.f5 false true false false) := by
  refine returnsInHanded_of_change_sized (C := Try.checked) own started (by kernel_rfl) Try.func5
    (ChangeSpec.witness6 (enc := enc) (C := Try.checked) false ⟨#[], #[.slice none 0 0], []⟩ 8 (by kernel_rfl) (by kernel_rfl) (by kernel_rfl) (by kernel_rfl)) ?_
  intro W base args ds gs before hval0 hW hcnd hsz0 _
  have hval : ∀ (j : Nat) t v, Try.f5.params[j]? = some t → args[j]? = some v → Value.okWide Try.prog W .any base t v := hval0
  have hsz : (DataW.weightsEach Try.prog (Try.f5.params.toList ++ Rows.identHighestSpec.plain.varTypes Try.prog) (ds ++ gs)).all (· ≤ reachBytes) = true := hsz0
  have hW' := hW
  obtain ⟨p, q, hA0, hV, rfl, hfz, hnd⟩ := hW
  have hA : DataW.TrodAll enc Try.prog W 0 (fun _ => true) true Try.f5.params.toList args.toList ds p := hA0
  rw [Try.params5] at hA hval hsz

  obtain ⟨v0, vs0, d0, ds0, p0, q0, hargs, rfl, rfl, h0, r0⟩ := trodAll_cons hA
  obtain ⟨rfl, rfl, rfl⟩ := trodAll_nil r0
  obtain rfl : args = #[v0] := by cases args; simp_all
  obtain ⟨rfl, rfl⟩ := trodVars_none hV
  obtain ⟨la0, L0, lc0, rfl, lm0, hS0⟩ := open_ids (okWide_slice Try.underlying41 (hval 0 41 v0 rfl rfl)) h0
  have hA2 := hA0
  clear hA0 hval0 hsz0
  simp only [List.append_nil] at hW'
  refine (walk la0 L0 lc0 lm0 W hS0).mono fun e W' ⟨he, bel⟩ => ?_
  subst he
  exact ⟨_, rfl, _, _, _, [], _, [], hW', trodAll_mk1 (shut_bool Try.underlying4 _), (stays_all laidOut bel (by kernel_rfl) hA2), rfl, bel.frame _, fun h => by cases h⟩

theorem over : Rows.identHighestRow.holds Try.pinned (OpenSpec.ofChange Rows.identHighestSpec) :=
  OpenClaim.holds_of_wide 5 Try.f5 rfl rfl rfl rfl rfl rfl rfl ⟨rfl, rfl, rfl, rfl, rfl⟩ rfl rfl rfl rfl rfl (by kernel_rfl) Try.func5 (by kernel_rfl)
    (of_decide_eq_true (by kernel_rfl)) (by unfold Func.isWrapper; first | (rw [if_pos (by decide +kernel)]; kernel_rfl) | (rw [if_neg (by decide +kernel)]; exact ⟨rfl, rfl⟩))
    (fun os started H enc _ => lifted os started H enc)

end Go.Proofs.Ytbgfhmnlnjlnhaa.identHighest
namespace Go.Proofs.Ytbgfhmnlnjlnhaa

theorem identHighest_holds : Rows.IdentHighestSaid := identHighest.over
#print axioms identHighest_holds

end Go.Proofs.Ytbgfhmnlnjlnhaa
