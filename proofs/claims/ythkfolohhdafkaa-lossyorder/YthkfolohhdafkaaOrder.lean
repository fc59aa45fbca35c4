/-
  Taken by index 0 a link's letters come in the order in which they were put, each once, and the other links' letters stay as they stand: the law LossyOrder returns true for every input.
  No condition beyond the form's own.
-/
import Derived.Test.YthkfolohhdafkaaRows
import Derived.Test.YthkfolohhdafkaaLeF
import Derived.Test.YthkfolohhdafkaaLeO
import Derived.WalkKit
import Derived.ProofKit
import Derived.OpenShut
import Derived.ShutString
import Derived.SizedLaws
import Derived.ChangeOld
import Derived.Below
namespace Go.Proofs.Ythkfolohhdafkaa.lossyOrder
open Go.Sort Go.ChangeShapes Go.WideShapes Go.ChangeAt Go.RowKit
open Go.ChangeMaps (open_string shut_string)
set_option linter.unusedVariables false
set_option maxRecDepth 10000

theorem own : ownKnob Try.prog.godebug = none := by kernel_rfl
theorem length_bytes (s : ByteArray) : s.data.toList.length = s.size := by rw [Array.length_toList]; rfl

set_option maxHeartbeats 4000000 in
theorem walk (la : Option Addr) (L : List Le) (lc : Nat) (lz : L.length * 40 ≤ 140737488351232) (lk : L.length ≤ lc) (lm : lc ≤ maxLen) (ls : ∀ x ∈ L, x.small) (f : Int) (wf : (Lit.int .i64 f).wf = true) (u : Int) (wu : (Lit.int .i64 u).wf = true) (w : World) (hL : Li Le.vals 0 la L w) :
    Calls Try.prog 5 #[.slice la L.length lc, .int .i64 f, .int .i64 u] w fun e w' => e = .returned (.bool true) ∧ Below w.heap.size w w' := by
  obtain ⟨iI, zI, hI, hz0, hsz, hby, hzs⟩ := infoLe
  obtain ⟨n, hn⟩ : ∃ n, Hid (L.length = n) := ⟨_, rfl⟩
  rw [hn.out] at lz lk
  rw [hn.out]
  clear wf wu ls
  go_enter Try.func5, Try.ntmps5
  go_wp2_with fail
  refine (fixed_ok w).mono ?_
  rintro r w1 ⟨rfl, hB⟩
  by_cases h1 : 200 < n
  · have d1 : (200 : Int) < (n : Int) := by omega
    go_wp2_with fail
    refine (fixed_ok _).mono ?_
    rintro r w2 ⟨rfl, hb⟩
    replace hB := below_next hB hb
    clear hb
    go_wp2_with fail
    go_ret
    exact ⟨rfl, hB⟩
  have d1 : ¬ (200 : Int) < (n : Int) := by omega
  have o0 := Lg.of (Ow.empty (f := Le.vals) (k := 4) (blk_new w1 #[] 27)) hB.size
  have hb := below_box w1 (.cells #[] 27)
  have hB0 := below_next hB hb
  go_upto_region 4 with (go_big_may; first
    | refine box_le0 rfl rfl ?_
    | (refine append_any Le.vals_length rfl _ _ rfl Try.underlying22 hI hz0 hsz hby hzs o0 hB0.size (n := 0) rfl rfl (M := L) hn.out ((hL.below hB0).src Le.vals_length Le.vals_one Try.underlying22 lc) (by rw [hn.out]; rfl) (by omega) (by simp only [maxLen]; omega) ?_; intro a3 c3 W3 o3 k3 _; have hB3 : Below w.heap.size w W3 := hB0.trans (k3.below (fun k hk => (o0.in k hk).1) hB0.size); simp only [Nat.zero_add]))
  try simp only [Act.put]
  rw [List.nil_append] at o3
  clear o0 k3 hB0 hB hb
  have r3 := Lg.of (Ow.empty (f := Le.vals) (k := 4) (blk_new W3 #[] 27)) hB3.size
  have hb := below_box W3 (.cells #[] 27)
  have hd0 : Hid (∀ A ∈ blkOf a3, A ∉ blkOf (some ⟨W3.heap.size, 0, none⟩)) := fun A hA hm => by
    have h2 := (o3.in A hA).2
    simp [blkOf] at hm
    omega
  go_upto_region 6 with (go_big_may; refine box_le0 rfl rfl ?_)
  try simp only [Act.put]
  generalize W3.alloc (Obj.cells #[] 27) = W4 at r3 hb ⊢
  replace o3 := o3.below hb
  have hB4 := below_next hB3 hb
  clear hb hB3
  generalize W3.heap.size = z3 at r3 hd0 ⊢
  go_loopw [7, 8, 9] (fun lv rv iv wr => ∃ (j q s : Nat) (a : Option Addr) (c : Nat) (ra : Option Addr) (rc : Nat), j ≤ n ∧ iv = .int .i64 j ∧ lv = .slice a q c ∧ rv = .slice ra s rc ∧ Hid ((lefL f u L j).length = q) ∧ Hid ((othL f u L j).length = s) ∧ s ≤ j ∧ Lg Le.vals 4 27 w.heap.size a c (lefL f u L j) wr ∧ Lg Le.vals 4 27 w.heap.size ra rc (othL f u L j) wr ∧ Hid (∀ A ∈ blkOf a, A ∉ blkOf ra) ∧ Below w.heap.size w wr) (fun _ _ iv _ => n - (intOf iv).toNat)
  case atStart => exact ⟨0, n, 0, a3, c3, _, 0, by omega, rfl, rfl, rfl, hn, rfl, by omega, o3, r3, hd0, hB4⟩
  case round =>
    clear o3 r3 hd0 hB4
    obtain ⟨j, q, s, a, c, ra, rc, hj, rfl, rfl, rfl, hq, hs, hsj, hG, hR, hd, hB⟩ := hrel
    rename World => wr
    have hql : q ≤ j + n := by rw [← hq.out, ← hn.out]; exact lefL_len f u L j
    by_cases hjn : j < n
    · have j0 : (j : Int) < (n : Int) := by omega
      have j1 : (0 : Int) ≤ (j : Int) := by omega
      obtain ⟨x, hx⟩ : ∃ x, L[j]? = some x := ⟨_, List.getElem?_eq_getElem (by rw [hn.out]; exact hjn)⟩
      obtain ⟨b, o, rfl, _, hbl, hr⟩ := (hL.below hB).at Le.vals_length j x hx
      have c0 : wr.cell? ⟨b, o + j * 4, none⟩ = some (.int .i64 x.fr) := by have := hr 0 _ rfl; simpa using this
      have c1 : wr.cell? ⟨b, o + j * 4 + 1, none⟩ = some (.int .i64 x.u) := hr 1 _ rfl
      clear hbl d1 h1
      obtain ⟨t, ht⟩ : ∃ t, fitB f u x = t := ⟨_, rfl⟩
      cases t with
      | false =>
        by_cases h1 : x.fr = f
        · have h2 : (x.u != u) = true := by
            unfold fitB at ht
            simp [h1] at ht
            simp [ht]
          have h1' : (x.fr != f) = false := by simp [h1]
          clear h1
          have HL : Hid (lefL f u L (j + 1) = lefL f u L j) := lefL_other f u L j x hx ht
          have HO : Hid (othL f u L (j + 1) = othL f u L j ++ [x]) := othL_other f u L j x hx ht
          clear ht hx
          go_wp2_with (first
            | refine load_range rfl 27 _ rfl x.vals hr rfl Try.underlying27 rfl sizeLe ?_
            | (refine box_leW rfl _ rfl x rfl ?_; intro W2 l2 hb2; have hR2 := hR.below hb2; have hG2 := hG.below hb2; have hB2 := below_next hB hb2)
            | (refine append_any Le.vals_length rfl _ _ rfl Try.underlying22 hI hz0 hsz hby hzs hR2 hB2.size hs.out rfl (M := [x]) (m := 1) rfl (l2.src Le.vals_length Le.vals_one Try.underlying22 1) rfl (by omega) (by simp only [maxLen]; omega) ?_; intro a3 c3 W3 hR3 k3 n3))
          have hB3 : Below w.heap.size w W3 := hB2.trans (k3.below (fun k hk => (hR2.in k hk).1) hB2.size)
          have hG3 := hG2.apart k3 (fun A hA => hd.out A hA)
          refine ⟨⟨j + 1, q, s + 1, a, c, a3, c3, by omega, by go_num, rfl, rfl, by rw [HL.out]; exact hq, by rw [HO.out, List.length_append, hs.out]; exact rfl, by omega, by rw [HL.out]; exact hG3, by rw [HO.out]; exact hR3, fun A hA hm => ?_, hB3⟩, by simp [intOf]; omega⟩
          rcases n3 A hm with h | h
          · exact hd.out A hA h
          · have := (hG2.in A hA).2
            omega
        · have h1' : (x.fr != f) = true := by simpa using h1
          clear h1
          have HL : Hid (lefL f u L (j + 1) = lefL f u L j) := lefL_other f u L j x hx ht
          have HO : Hid (othL f u L (j + 1) = othL f u L j ++ [x]) := othL_other f u L j x hx ht
          clear ht hx
          go_wp2_with (first
            | refine load_range rfl 27 _ rfl x.vals hr rfl Try.underlying27 rfl sizeLe ?_
            | (refine box_leW rfl _ rfl x rfl ?_; intro W2 l2 hb2; have hR2 := hR.below hb2; have hG2 := hG.below hb2; have hB2 := below_next hB hb2)
            | (refine append_any Le.vals_length rfl _ _ rfl Try.underlying22 hI hz0 hsz hby hzs hR2 hB2.size hs.out rfl (M := [x]) (m := 1) rfl (l2.src Le.vals_length Le.vals_one Try.underlying22 1) rfl (by omega) (by simp only [maxLen]; omega) ?_; intro a3 c3 W3 hR3 k3 n3))
          have hB3 : Below w.heap.size w W3 := hB2.trans (k3.below (fun k hk => (hR2.in k hk).1) hB2.size)
          have hG3 := hG2.apart k3 (fun A hA => hd.out A hA)
          refine ⟨⟨j + 1, q, s + 1, a, c, a3, c3, by omega, by go_num, rfl, rfl, by rw [HL.out]; exact hq, by rw [HO.out, List.length_append, hs.out]; exact rfl, by omega, by rw [HL.out]; exact hG3, by rw [HO.out]; exact hR3, fun A hA hm => ?_, hB3⟩, by simp [intOf]; omega⟩
          rcases n3 A hm with h | h
          · exact hd.out A hA h
          · have := (hG2.in A hA).2
            omega
      | true =>
        have h1 : x.fr = f ∧ x.u = u := by
          unfold fitB at ht
          simpa using ht
        have h1' : (x.fr != f) = false := by simp [h1.1]
        have h2' : (x.u != u) = false := by simp [h1.2]
        clear h1
        obtain ⟨k1, k2, k3⟩ := lefL_took f u L j x hx ht
        have HO : Hid (othL f u L (j + 1) = othL f u L j) := othL_fit f u L j x hx ht
        have pT := ltake_ok (lefL f u L j) a c f u 0 (by decide) (by rw [hq.out]; omega) hG.cap hG.max wr (hG.li.mono (Nat.zero_le _))
        unfold TookL at pT
        rw [k1, k2, k3, hq.out] at pT
        obtain ⟨q2, hq2⟩ : ∃ q2, Hid ((lefL f u L (j + 1)).length = q2) := ⟨_, rfl⟩
        rw [hq2.out] at pT
        have hl2 : q2 ≤ j + 1 + n := by rw [← hq2.out, ← hn.out]; exact lefL_len f u L (j + 1)
        clear k1 k2 k3 ht hr
        go_upto_region 10 with fail
        try simp only [Act.put]
        clear c0 c1
        go_wp2_with fail
        refine pT.mono ?_
        rintro r w1 ⟨⟨a2, c2, rfl, o2⟩, hb⟩
        have hsz9 := hB.size
        have hd2 : Hid (∀ A ∈ blkOf a2, A ∉ blkOf ra) := fun A hA hm => by
          have h1 := (o2.in A hA).1
          have h2 := (hR.in A hm).2
          omega
        replace o2 := o2.mono hB.size
        replace hR := hR.below hb
        replace hB := below_next hB hb
        clear hb pT hG hd hsz9
        have v1 := blk_new w1 x.arr 27
        have hb := below_box w1 (.cells x.arr 27)
        go_upto_region 11 with (go_big_may; first | refine alloc_zero zeroLe rfl rfl ?_ | refine store_new rfl 27 _ _ rfl (cells := x.arr) rfl rfl sizeLe rfl (Le.arr_one _) ?_)
        try simp only [Act.put]
        generalize w1.alloc (Obj.cells x.arr 27) = V1 at v1 hb ⊢
        replace o2 := o2.below hb
        replace hR := hR.below hb
        replace hB := below_next hB hb
        clear hb
        obtain ⟨b', o', e', _, hbl, hr⟩ := (hL.below hB).at Le.vals_length j x hx
        injection e' with e'
        injection e' with e1 e2 e3
        subst e1 e2
        have kK : ∀ w, (binOp .neq 27 (.agg x.arr) (.agg x.vals.toArray)).run Try.prog w = .ok (.bool false) w := neqLe x x true (Le.same_self x)
        have l0 := v1.regrown
        have l1 : ∀ w', (∃ p : Regrown, w' = grow (redrawn V1 p.d) p.os) → w'.rangeAt b (o + j * 4) x.vals := fun w' ⟨p, e⟩ => e ▸ range_block hr ((below_regrown V1 p.d p.os).block b hbl)
        clear hr hbl hx
        refine wp_region_quiet_below (by kernel_rfl) (by kernel_rfl) ?_
        repeat (first
          | (go_big_quiet_want; refine quiet_load rfl rfl l0 Try.underlying27 rfl sizeLe ?_; simp only [Act.put, List.setIfInBounds_toArray, List.set_cons_zero, List.set_cons_succ]; go_big_quiet_on)
          | (go_big_quiet_want; refine quiet_range (off := o + j * 4) rfl rfl l1 Try.underlying27 rfl sizeLe ?_; simp only [Act.put, List.setIfInBounds_toArray, List.set_cons_zero, List.set_cons_succ]; go_big_quiet_on)
          | go_big_quiet_step (fail))
        refine wpQuiet_nil ?_
        intro _ hw'
        obtain ⟨⟨dq, osq⟩, hw''⟩ := hw'
        have hb := below_regrown V1 dq osq
        subst hw''
        generalize grow (redrawn V1 dq) osq = U1 at hb ⊢
        replace o2 := o2.below hb
        replace hR := hR.below hb
        replace hB := hB.trans (hb.mono hB.size)
        clear hb
        clear kK l0 l1 v1
        go_wp2_with fail
        exact ⟨⟨j + 1, q2, s, a2, c2, ra, rc, by omega, by go_num, rfl, rfl, hq2, by rw [HO.out]; exact hs, by omega, o2, by rw [HO.out]; exact hR, hd2, hB⟩, by simp [intOf]; omega⟩
    · obtain rfl : j = n := by omega
      obtain ⟨k1, k2⟩ := lefL_end f u L j (by rw [hn.out]; omega)
      have pT := ltake_ok (lefL f u L j) a c f u 0 (by decide) (by rw [hq.out]; omega) hG.cap hG.max wr (hG.li.mono (Nat.zero_le _))
      have pS := fun w7 h7 h8 => lsame_ok (othL f u L j) a ra c rc (by rw [hs.out]; omega) w7 h7 h8
      unfold TookL at pT
      rw [k2, hq.out] at pT
      have hqs : q = s := by rw [← hq.out, ← hs.out, k1]
      subst hqs
      rw [k1] at hG
      rw [hs.out] at pS
      generalize leftL f u 0 (lefL f u L j) = X at pT
      generalize gotL f u 0 (lefL f u L j) = y at pT
      clear k1 k2
      go_wp2_with fail
      refine pT.mono ?_
      rintro r w1 ⟨⟨a2, c2, rfl, _⟩, hb⟩
      replace hG := hG.below hb
      replace hR := hR.below hb
      replace hB := below_next hB hb
      clear hb pT
      have v1 := blk_new w1 y.arr 27
      have hb := below_box w1 (.cells y.arr 27)
      go_upto_region 15 with (go_big_may; first | refine alloc_zero zeroLe rfl rfl ?_ | refine store_new rfl 27 _ _ rfl (cells := y.arr) rfl rfl sizeLe rfl (Le.arr_one _) ?_)
      try simp only [Act.put]
      generalize w1.alloc (Obj.cells y.arr 27) = V1 at v1 hb ⊢
      replace hG := hG.below hb
      replace hR := hR.below hb
      replace hB := below_next hB hb
      clear hb v1
      go_wp2_with fail
      refine (pS V1 (hG.li.mono (Nat.zero_le _)) (hR.li.mono (Nat.zero_le _))).mono ?_
      rintro r w3 ⟨rfl, hb⟩
      replace hB := below_next hB hb
      clear hb pS
      go_wp2_with fail
      go_ret
      exact ⟨rfl, hB⟩

set_option maxRecDepth 100000 in
theorem lifted (os : Go.Os) (started : os.Started) (H : Type) (enc : TypeId × Value → H) :
    ReturnsInHanded {} Try.checked os 5 .any (Rows.lossyOrderSpec.pre6 enc Try.prog Try.f5 Rows.lossyOrderRow.domain false) (Rows.lossyOrderSpec.post enc Try.prog Try.f5 false true false false) := by
  refine returnsInHanded_of_change_sized (C := Try.checked) own started (by kernel_rfl) Try.func5
    (ChangeSpec.witness6 (enc := enc) (C := Try.checked) false ⟨#[], #[.slice none 0 0, .int .i64 0, .int .i64 0], []⟩ 8 (by kernel_rfl) (by kernel_rfl) (by kernel_rfl) (by kernel_rfl)) ?_
  intro W base args ds gs before hval0 hW hcnd hsz0 _
  have hval : ∀ (j : Nat) t v, Try.f5.params[j]? = some t → args[j]? = some v → Value.okWide Try.prog W .any base t v := hval0
  have hsz : (DataW.weightsEach Try.prog (Try.f5.params.toList ++ Rows.lossyOrderSpec.plain.varTypes Try.prog) (ds ++ gs)).all (· ≤ reachBytes) = true := hsz0
  have hW' := hW
  obtain ⟨p, q, hA0, hV, rfl, hfz, hnd⟩ := hW
  have hA : DataW.TrodAll enc Try.prog W 0 (fun _ => true) true Try.f5.params.toList args.toList ds p := hA0
  rw [Try.params5] at hA hval hsz

  obtain ⟨v0, vs0, d0, ds0, p0, q0, hargs, rfl, rfl, h0, r0⟩ := trodAll_cons hA
  obtain ⟨v1, vs1, d1, ds1, p1, q1, rfl, rfl, rfl, h1, r1⟩ := trodAll_cons r0
  obtain ⟨v2, vs2, d2, ds2, p2, q2, rfl, rfl, rfl, h2, r2⟩ := trodAll_cons r1
  obtain ⟨rfl, rfl, rfl⟩ := trodAll_nil r2
  obtain rfl : args = #[v0, v1, v2] := by cases args; simp_all
  obtain ⟨rfl, rfl⟩ := trodVars_none hV
  obtain ⟨la0, L0, lc0, rfl, lz0, hc0, hm0, ls0, hS0⟩ := open_les (okWide_slice Try.underlying22 (hval 0 22 v0 rfl rfl)) (fun n hn => of_decide_eq_true (List.all_eq_true.1 hsz _ (DataW.weights_mem_each (j := 0) rfl rfl n hn))) h0
  obtain ⟨a1, rfl, rfl, rfl, w1⟩ := open_int Try.underlying3 (hval 1 3 v1 rfl rfl) h1
  obtain ⟨a2, rfl, rfl, rfl, w2⟩ := open_int Try.underlying3 (hval 2 3 v2 rfl rfl) h2
  have hA2 := hA0
  clear hA0 hval0 hsz0
  simp only [List.append_nil] at hW'
  refine (walk la0 L0 lc0 lz0 hc0 hm0 ls0 a1 w1 a2 w2 W hS0).mono fun e W' ⟨he, bel⟩ => ?_
  subst he
  exact ⟨_, rfl, _, _, _, [], _, [], hW', trodAll_mk1 (shut_bool Try.underlying4 _), (stays_all laidOut bel (by kernel_rfl) hA2), rfl, bel.frame _, fun h => by cases h⟩

theorem over : Rows.lossyOrderRow.holds Try.pinned (OpenSpec.ofChange Rows.lossyOrderSpec) :=
  OpenClaim.holds_of_wide 5 Try.f5 rfl rfl rfl rfl rfl rfl rfl ⟨rfl, rfl, rfl, rfl, rfl⟩ rfl rfl rfl rfl rfl (by kernel_rfl) Try.func5 (by kernel_rfl)
    (of_decide_eq_true (by kernel_rfl)) (by unfold Func.isWrapper; first | (rw [if_pos (by decide +kernel)]; kernel_rfl) | (rw [if_neg (by decide +kernel)]; exact ⟨rfl, rfl⟩))
    (fun os started H enc _ => lifted os started H enc)

end Go.Proofs.Ythkfolohhdafkaa.lossyOrder
namespace Go.Proofs.Ythkfolohhdafkaa

theorem lossyOrder_holds : Rows.LossyOrderSaid := lossyOrder.over
#print axioms lossyOrder_holds

end Go.Proofs.Ythkfolohhdafkaa
