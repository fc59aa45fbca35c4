/-
  What is dropped does not come; all else does, in its order, as if that had never been pushed: the law RingDrops returns true for every input.
  No condition beyond the form's own.
-/
import Derived.Test.YtleecgoppplioaaRows
import Derived.Test.YtleecgoppplioaaRgU
import Derived.WalkKit
import Derived.ProofKit
import Derived.OpenShut
import Derived.ShutString
import Derived.SizedLaws
import Derived.ChangeOld
import Derived.Below
namespace Go.Proofs.Ytleecgoppplioaa.ringDrops
open Go.Sort Go.ChangeShapes Go.WideShapes Go.ChangeAt Go.RowKit
open Go.ChangeMaps (open_string shut_string)
set_option linter.unusedVariables false

theorem own : ownKnob Try.prog.godebug = none := by kernel_rfl
theorem length_bytes (s : ByteArray) : s.data.toList.length = s.size := by rw [Array.length_toList]; rfl

set_option maxHeartbeats 8000000 in
theorem walk (la : Option Addr) (L : List En) (lc : Nat) (lm : L.length ≤ maxLen) (s' : Int) (ws : (Lit.int .u64 s').wf = true) (w : World) (hS : Li En.vals 0 la L w) : Calls Try.prog 5 #[.slice la L.length lc, .int .u64 s'] w fun e w' => e = .returned (.bool true) ∧ Below w.heap.size w w' := by
  obtain ⟨s, rfl, _⟩ := u64nat ws
  have hm : L.length ≤ 9223372036854775807 := lm
  obtain ⟨n, hn⟩ : ∃ n, L.length = n := ⟨_, rfl⟩
  rw [hn] at hm ⊢
  have HN : Hid (L.length = n) := hn
  clear hn lm ws
  go_enter Try.func5, Try.ntmps5
  go_wp2_with fail
  refine (new_ok 64 (by decide) w).mono ?_
  rintro r w1 ⟨R, G, rfl, hR, hG, hr1, hb1⟩
  go_wp2_with fail
  refine (new_ok 64 (by decide) w1).mono ?_
  rintro r w2 ⟨Q, H, rfl, hQ, hH, hr2, hb2⟩
  have s2 := Two.new hr1 hR hG hb1 hr2 hQ hH hb2
  clear hr1 hR hG hb1 hr2 hQ hH hb2
  go_wp2_with fail
  refine (fixed_any w2).mono ?_
  rintro r w3 ⟨rfl, hb⟩
  have s3 := s2.below hb
  clear s2 hb
  go_wp2_with fail
  go_loopw [9] (fun iv wr => ∃ j : Nat, j ≤ n ∧ j ≤ 64 ∧ iv = .int .i64 j ∧ Two R G Q H 64 (L.take j) (keepL (L.take j) s) w wr) (fun iv _ => 64 - (intOf iv).toNat)
  case atStart => exact ⟨0, by omega, by omega, rfl, by simpa [keepL] using s3⟩
  case round =>
    clear s3
    obtain ⟨j, hj, hj64, rfl, ht⟩ := hrel
    by_cases hjl : j < n ∧ j < 64
    · obtain ⟨h1, h2⟩ := hjl
      have j0 : (j : Int) < (n : Int) := by omega
      have j1 : (0 : Int) ≤ (j : Int) := by omega
      have j2 : (j : Int) < 64 := by omega
      obtain ⟨x, hx⟩ : ∃ x, L[j]? = some x := ⟨_, List.getElem?_eq_getElem (by rw [HN.out]; exact h1)⟩
      have hst := keep_step L s j x hx
      have htk := takes L j x hx
      have hl1 : (L.take j).length < 64 := by rw [List.length_take]; omega
      have hl2 : (keepL (L.take j) s).length < 64 := Nat.lt_of_le_of_lt (keep_le _ _) hl1
      obtain ⟨b, o, rfl, _, hbl, hr⟩ := hS.at En.vals_length j x hx
      have hrr := range_block hr (ht.k.block b hbl (by simp))
      clear hx
      go_wp2_with (refine load_range rfl 30 _ rfl x.vals hrr rfl Try.underlying30 rfl sizeEn ?_)
      refine (push_in ht.a hl1 x).mono ?_
      rintro r w4 ⟨rfl, hr4, hk4⟩
      have s4 := ht.nextA hr4 hk4
      have hrr := range_block hr (s4.k.block b hbl (by simp))
      have c3 : w4.cell? ⟨b, o + j * 6 + 3, none⟩ = some (.int .u64 (x.se : Int)) := hrr 3 _ rfl
      rw [← htk] at s4
      clear ht hr4 hk4 hl1
      by_cases hse : x.se = s
      · have hse2 : (x.se : Int) = (s : Int) := by omega
        rw [if_pos hse, List.append_nil] at hst
        rw [← hst] at s4
        clear hse hst
        go_wp2_with fail
        refine ⟨⟨j + 1, by omega, by omega, by go_num, s4⟩, by simp [intOf]; omega⟩
      · have hse2 : ¬ (x.se : Int) = (s : Int) := by omega
        rw [if_neg hse] at hst
        clear hse
        go_wp2_with (refine load_range rfl 30 _ rfl x.vals hrr rfl Try.underlying30 rfl sizeEn ?_)
        refine (push_in s4.b hl2 x).mono ?_
        rintro r w5 ⟨rfl, hr5, hk5⟩
        have s5 := s4.nextB hr5 hk5
        rw [← hst] at s5
        clear s4 hr5 hk5 hrr c3
        go_wp2_with fail
        refine ⟨⟨j + 1, by omega, by omega, by go_num, s5⟩, by simp [intOf]; omega⟩
    · have hA : (L.take j).length = j := by rw [List.length_take, HN.out]; omega
      have hK := keep_le (L.take j) s
      generalize L.take j = A at *
      rw [hA] at hK
      clear hS HN
      have hend : ((j : Int) < (n : Int) ∧ (j : Int) < 64) = False := by simp; omega
      obtain ⟨K, hKK⟩ : ∃ K, Hid (keepL A s = K) := ⟨_, rfl⟩
      rw [hKK.out] at hK ht
      have dr := drop_ok (w := wr) ht.a s
      rw [hKK.out, hA] at dr
      have mA := many_ok ht.a
      have mB := many_ok ht.b
      rw [hA] at mA
      have hkz : K.length ≤ 64 := by omega
      have hdec : decide ((j : Int) < (n : Int)) = true → decide ((j : Int) < 64) = false := by simp; omega
      by_cases hjn : j < n
      · have e64 : ¬ (j : Int) < 64 := by omega
        have e0 : (j : Int) < (n : Int) := by omega
        go_wp2_with fail
        refine mA.mono ?_
        rintro r w4 ⟨rfl, rfl⟩
        go_wp2_with fail
        refine mB.mono ?_
        rintro r w4 ⟨rfl, rfl⟩
        go_wp2_with fail
        refine dr.mono ?_
        rintro r w5 ⟨rfl, hr5, hk5⟩
        have s5 := ht.nextA hr5 hk5
        clear hr5 hk5 ht mA mB dr
        go_wp2_with fail
        refine (many_ok s5.a).mono ?_
        rintro r w6 ⟨rfl, rfl⟩
        go_wp2_with fail
        refine (many_ok s5.b).mono ?_
        rintro r w6 ⟨rfl, rfl⟩
        go_wp2_with fail
        go_loopw [11] (fun iv wr => ∃ i : Nat, i ≤ 65 ∧ iv = .int .i64 i ∧ Two R G Q H 64 (K.drop i) (K.drop i) w wr) (fun iv _ => 65 - (intOf iv).toNat)
        case atStart => exact ⟨0, by omega, rfl, by simpa using s5⟩
        case round =>
          clear s5
          obtain ⟨i, hi, rfl, ht⟩ := hrel
          by_cases hil : i < 65
          · have i0 : (i : Int) ≤ 64 := by omega
            obtain ⟨e, he⟩ : ∃ e, Hid ((K.drop i).headD En.zero = e) := ⟨_, rfl⟩
            obtain ⟨t, het⟩ : ∃ t, Hid ((!(K.drop i).isEmpty) = t) := ⟨_, rfl⟩
            have keq := neqEn e e true (En.same_self _)
            go_wp2_with fail
            refine (pop_as ht.a he het).mono ?_
            rintro r w7 ⟨rfl, hr7, hk7⟩
            have s7 := ht.nextA hr7 hk7
            have s8 := s7.alloc (.cells e.arr 30)
            have x8 := blk_new w7 e.arr 30
            have n8 : w7.heap.size ∉ [Q, H] := s7.neB (Nat.le_refl _)
            clear ht hr7 hk7 s7
            rw [drops_head] at s8
            go_wp2_with (first | refine alloc_zero zeroEn rfl rfl ?_ | refine store_new rfl 30 _ _ rfl rfl rfl e.size rfl e.arr_one ?_)
            refine (pop_as s8.b he het).mono ?_
            rintro r w9 ⟨rfl, hr9, hk9⟩
            have s9 := (s8.nextB hr9 hk9).alloc (.cells e.arr 30)
            have x9 := (x8.kp hk9 n8).alloc (.cells e.arr 30)
            have y9 := blk_new w9 e.arr 30
            rw [drops_head] at s9
            clear s8 hr9 hk9 x8
            go_wp2_with (first | refine alloc_zero zeroEn rfl rfl ?_ | refine store_new rfl 30 _ _ rfl rfl rfl e.size rfl e.arr_one ?_ | refine load_blk rfl 30 _ rfl x9 rfl Try.underlying30 rfl e.size ?_ | refine load_blk rfl 30 _ rfl y9 rfl Try.underlying30 rfl e.size ?_)
            refine ⟨⟨i + 1, by omega, by go_num, s9⟩, by simp [intOf]; omega⟩
          · obtain rfl : i = 65 := by omega
            rw [List.drop_of_length_le (by omega)] at ht
            go_wp2_with fail
            refine (text_ok ⟨#[120]⟩ _).mono ?_
            rintro r w7 ⟨rfl, hb7⟩
            have s7 := ht.below hb7
            clear ht hb7
            go_wp2_with fail
            refine (push_in s7.a (by decide) (txt ⟨#[120]⟩)).mono ?_
            rintro r w8 ⟨rfl, hr8, hk8⟩
            have s8 := s7.nextA hr8 hk8
            go_wp2_with fail
            refine (many_ok s8.a).mono ?_
            rintro r w9 ⟨rfl, rfl⟩
            go_wp2_with fail
            go_ret
            exact ⟨rfl, s8.k.all⟩
      · have e0 : ¬ (j : Int) < (n : Int) := by omega
        go_wp2_with fail
        refine mA.mono ?_
        rintro r w4 ⟨rfl, rfl⟩
        go_wp2_with fail
        refine mB.mono ?_
        rintro r w4 ⟨rfl, rfl⟩
        go_wp2_with fail
        refine dr.mono ?_
        rintro r w5 ⟨rfl, hr5, hk5⟩
        have s5 := ht.nextA hr5 hk5
        clear hr5 hk5 ht mA mB dr
        go_wp2_with fail
        refine (many_ok s5.a).mono ?_
        rintro r w6 ⟨rfl, rfl⟩
        go_wp2_with fail
        refine (many_ok s5.b).mono ?_
        rintro r w6 ⟨rfl, rfl⟩
        go_wp2_with fail
        go_loopw [11] (fun iv wr => ∃ i : Nat, i ≤ 65 ∧ iv = .int .i64 i ∧ Two R G Q H 64 (K.drop i) (K.drop i) w wr) (fun iv _ => 65 - (intOf iv).toNat)
        case atStart => exact ⟨0, by omega, rfl, by simpa using s5⟩
        case round =>
          clear s5
          obtain ⟨i, hi, rfl, ht⟩ := hrel
          by_cases hil : i < 65
          · have i0 : (i : Int) ≤ 64 := by omega
            obtain ⟨e, he⟩ : ∃ e, Hid ((K.drop i).headD En.zero = e) := ⟨_, rfl⟩
            obtain ⟨t, het⟩ : ∃ t, Hid ((!(K.drop i).isEmpty) = t) := ⟨_, rfl⟩
            have keq := neqEn e e true (En.same_self _)
            go_wp2_with fail
            refine (pop_as ht.a he het).mono ?_
            rintro r w7 ⟨rfl, hr7, hk7⟩
            have s7 := ht.nextA hr7 hk7
            have s8 := s7.alloc (.cells e.arr 30)
            have x8 := blk_new w7 e.arr 30
            have n8 : w7.heap.size ∉ [Q, H] := s7.neB (Nat.le_refl _)
            clear ht hr7 hk7 s7
            rw [drops_head] at s8
            go_wp2_with (first | refine alloc_zero zeroEn rfl rfl ?_ | refine store_new rfl 30 _ _ rfl rfl rfl e.size rfl e.arr_one ?_)
            refine (pop_as s8.b he het).mono ?_
            rintro r w9 ⟨rfl, hr9, hk9⟩
            have s9 := (s8.nextB hr9 hk9).alloc (.cells e.arr 30)
            have x9 := (x8.kp hk9 n8).alloc (.cells e.arr 30)
            have y9 := blk_new w9 e.arr 30
            rw [drops_head] at s9
            clear s8 hr9 hk9 x8
            go_wp2_with (first | refine alloc_zero zeroEn rfl rfl ?_ | refine store_new rfl 30 _ _ rfl rfl rfl e.size rfl e.arr_one ?_ | refine load_blk rfl 30 _ rfl x9 rfl Try.underlying30 rfl e.size ?_ | refine load_blk rfl 30 _ rfl y9 rfl Try.underlying30 rfl e.size ?_)
            refine ⟨⟨i + 1, by omega, by go_num, s9⟩, by simp [intOf]; omega⟩
          · obtain rfl : i = 65 := by omega
            rw [List.drop_of_length_le (by omega)] at ht
            go_wp2_with fail
            refine (text_ok ⟨#[120]⟩ _).mono ?_
            rintro r w7 ⟨rfl, hb7⟩
            have s7 := ht.below hb7
            clear ht hb7
            go_wp2_with fail
            refine (push_in s7.a (by decide) (txt ⟨#[120]⟩)).mono ?_
            rintro r w8 ⟨rfl, hr8, hk8⟩
            have s8 := s7.nextA hr8 hk8
            go_wp2_with fail
            refine (many_ok s8.a).mono ?_
            rintro r w9 ⟨rfl, rfl⟩
            go_wp2_with fail
            go_ret
            exact ⟨rfl, s8.k.all⟩

set_option maxRecDepth 100000 in
theorem lifted (os : Os) (started : os.Started) (H : Type) (enc : TypeId × Value → H) :
    ReturnsInHanded {} Try.checked os 5 .any (Rows.ringDropsSpec.pre6 enc Try.prog Try.f5 Rows.ringDropsRow.domain false) (Rows.ringDropsSpec.post enc Try.prog Try.f5 false true false false) := by
  refine returnsInHanded_of_change_sized (C := Try.checked) own started (by kernel_rfl) Try.func5
    (ChangeSpec.witness6 (enc := enc) (C := Try.checked) false ⟨#[], #[.slice none 0 0, .int .u64 0], []⟩ 8 (by kernel_rfl) (by kernel_rfl) (by kernel_rfl) (by kernel_rfl)) ?_
  intro W base args ds gs before hval0 hW hcnd hsz0 _
  have hval : ∀ (j : Nat) t v, Try.f5.params[j]? = some t → args[j]? = some v → Value.okWide Try.prog W .any base t v := hval0
  have hsz : (DataW.weightsEach Try.prog (Try.f5.params.toList ++ Rows.ringDropsSpec.plain.varTypes Try.prog) (ds ++ gs)).all (· ≤ reachBytes) = true := hsz0
  have hW' := hW
  obtain ⟨p, q, hA0, hV, rfl, hfz, hnd⟩ := hW
  have hA : DataW.TrodAll enc Try.prog W 0 (fun _ => true) true Try.f5.params.toList args.toList ds p := hA0
  rw [Try.params5] at hA hval hsz

  obtain ⟨v0, vs0, d0, ds0, p0, q0, hargs, rfl, rfl, h0, r0⟩ := trodAll_cons hA
  obtain ⟨v1, vs1, d1, ds1, p1, q1, rfl, rfl, rfl, h1, r1⟩ := trodAll_cons r0
  obtain ⟨rfl, rfl, rfl⟩ := trodAll_nil r1
  obtain rfl : args = #[v0, v1] := by cases args; simp_all
  obtain ⟨rfl, rfl⟩ := trodVars_none hV
  obtain ⟨la0, L0, lc0, rfl, lm0, hS0⟩ := open_ens (okWide_slice Try.underlying27 (hval 0 27 v0 rfl rfl)) h0
  obtain ⟨a1, rfl, rfl, rfl, w1⟩ := open_int Try.underlying28 (hval 1 28 v1 rfl rfl) h1
  have hA2 := hA0
  clear hA0 hval0 hsz0
  simp only [List.append_nil] at hW'
  refine (walk la0 L0 lc0 lm0 a1 w1 W hS0).mono fun e W' ⟨he, bel⟩ => ?_
  subst he
  exact ⟨_, rfl, _, _, _, [], _, [], hW', trodAll_mk1 (shut_bool Try.underlying4 _), (stays_all laidOut bel (by kernel_rfl) hA2), rfl, bel.frame _, fun h => by cases h⟩

theorem over : Rows.ringDropsRow.holds Try.pinned (OpenSpec.ofChange Rows.ringDropsSpec) :=
  OpenClaim.holds_of_wide 5 Try.f5 rfl rfl rfl rfl rfl rfl rfl ⟨rfl, rfl, rfl, rfl, rfl⟩ rfl rfl rfl rfl rfl (by kernel_rfl) Try.func5 (by kernel_rfl)
    (of_decide_eq_true (by kernel_rfl)) (by unfold Func.isWrapper; first | (rw [if_pos (by decide +kernel)]; kernel_rfl) | (rw [if_neg (by decide +kernel)]; exact ⟨rfl, rfl⟩))
    (fun os started H enc _ => lifted os started H enc)

end Go.Proofs.Ytleecgoppplioaa.ringDrops
namespace Go.Proofs.Ytleecgoppplioaa

theorem ringDrops_holds : Rows.RingDropsSaid := ringDrops.over
#print axioms ringDrops_holds

end Go.Proofs.Ytleecgoppplioaa
