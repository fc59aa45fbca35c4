/-
  A ring that was cleared is as a new one, whatever it held: the law RingClears returns true for every input.
  No condition beyond the form's own.
-/
import Derived.Test.YtleecgoppplioaaRows
import Derived.Test.YtleecgoppplioaaRgU
import Derived.WalkKit
import Derived.ProofKit
import Derived.OpenShut
import Derived.ShutString
import Derived.SizedLaws
import Derived.ChangeOld
import Derived.Below
namespace Go.Proofs.Ytleecgoppplioaa.ringClears
open Go.Sort Go.ChangeShapes Go.WideShapes Go.ChangeAt Go.RowKit
open Go.ChangeMaps (open_string shut_string)
set_option linter.unusedVariables false

theorem own : ownKnob Try.prog.godebug = none := by kernel_rfl
theorem length_bytes (s : ByteArray) : s.data.toList.length = s.size := by rw [Array.length_toList]; rfl

set_option maxHeartbeats 4000000 in
theorem walk_no (n : Int) (hn : n < 0 ∨ 64 < n) (la : Option Addr) (ll lc : Nat) (ma : Option Addr) (ml mc : Nat) (w : World) : Calls Try.prog 6 #[.int .i64 n, .slice la ll lc, .slice ma ml mc] w fun e w' => e = .returned (.bool true) ∧ Below w.heap.size w w' := by
  go_enter Try.func6, Try.ntmps6
  go_wp2_with fail
  refine (new_no n hn w).mono ?_
  rintro r w1 ⟨rfl, rfl⟩
  go_wp2_with fail
  refine (new_no n hn _).mono ?_
  rintro r w1 ⟨rfl, rfl⟩
  go_wp2_with fail
  refine (fixed_any _).mono ?_
  rintro r w2 ⟨rfl, hb2⟩
  go_wp2_with fail
  refine (fixed_any _).mono ?_
  rintro r w3 ⟨rfl, hb3⟩
  go_wp2_with fail
  go_ret
  exact ⟨rfl, hb2.trans (hb3.mono hb2.size)⟩

set_option maxHeartbeats 16000000 in
theorem walk_in (room : Nat) (hroom : room ≤ 64) (la : Option Addr) (L : List En) (lc : Nat) (lm : L.length ≤ maxLen) (ma : Option Addr) (M : List En) (mc : Nat) (mm : M.length ≤ maxLen) (w : World) (hS : Li En.vals 0 la L w) (hT : Li En.vals 0 ma M w) :
    Calls Try.prog 6 #[.int .i64 (room : Int), .slice la L.length lc, .slice ma M.length mc] w fun e w' => e = .returned (.bool true) ∧ Below w.heap.size w w' := by
  have hm : L.length ≤ 9223372036854775807 := lm
  have hmm : M.length ≤ 9223372036854775807 := mm
  obtain ⟨n, hn⟩ : ∃ n, L.length = n := ⟨_, rfl⟩
  obtain ⟨n', hn'⟩ : ∃ n, M.length = n := ⟨_, rfl⟩
  rw [hn] at hm ⊢
  rw [hn'] at hmm ⊢
  have HN : Hid (L.length = n) := hn
  have HN' : Hid (M.length = n') := hn'
  clear hn hn' lm mm
  go_enter Try.func6, Try.ntmps6
  go_wp2_with fail
  refine (new_ok room hroom w).mono ?_
  rintro r w1 ⟨R, G, rfl, hR, hG, hr1, hb1⟩
  go_wp2_with fail
  refine (new_ok room hroom w1).mono ?_
  rintro r w2 ⟨Q, H, rfl, hQ, hH, hr2, hb2⟩
  have s2 := Two.new hr1 hR hG hb1 hr2 hQ hH hb2
  clear hr1 hR hG hb1 hr2 hQ hH hb2
  go_wp2_with fail
  refine (fixed_any w2).mono ?_
  rintro r w3 ⟨rfl, hb⟩
  have s3 := s2.below hb
  clear s2 hb
  go_wp2_with fail
  go_loopw [11] (fun iv wr => ∃ (j : Nat) (A : List En), j ≤ n ∧ j ≤ 100 ∧ iv = .int .i64 j ∧ Two R G Q H room A [] w wr) (fun iv _ => 100 - (intOf iv).toNat)
  case atStart => exact ⟨0, [], by omega, by omega, rfl, s3⟩
  case round =>
    clear s3
    obtain ⟨j, A, hj, hj64, rfl, sd⟩ := hrel
    by_cases hjl : j < n ∧ j < 100
    · obtain ⟨h1, h2⟩ := hjl
      have j0 : (j : Int) < (n : Int) := by omega
      have j1 : (0 : Int) ≤ (j : Int) := by omega
      have j2 : (j : Int) < 100 := by omega
      obtain ⟨x, hx⟩ : ∃ x, L[j]? = some x := ⟨_, List.getElem?_eq_getElem (by rw [HN.out]; exact h1)⟩
      obtain ⟨b, o, rfl, _, hbl, hr⟩ := hS.at En.vals_length j x hx
      have hrr := range_block hr (sd.k.block b hbl (by simp))
      clear hx hT
      obtain ⟨A', hM⟩ : ∃ M, Hid ((if A.length < room then A ++ [x] else A) = M) := ⟨_, rfl⟩
      obtain ⟨t, ht2⟩ : ∃ t, Hid (decide (A.length < room) = t) := ⟨_, rfl⟩
      go_wp2_with (refine load_range rfl 30 _ rfl x.vals hrr rfl Try.underlying30 rfl sizeEn ?_)
      refine (push_as sd.a x hM ht2).mono ?_
      rintro r w4 ⟨rfl, hr4, hk4⟩
      have s4 := sd.nextA hr4 hk4
      clear sd hr4 hk4 hrr hM ht2
      go_wp2_with fail
      · obtain ⟨e, he⟩ : ∃ e, Hid (A'.headD En.zero = e) := ⟨_, rfl⟩
        obtain ⟨u, het⟩ : ∃ t, Hid ((!A'.isEmpty) = t) := ⟨_, rfl⟩
        refine (pop_as s4.a he het).mono ?_
        rintro r w5 ⟨rfl, hr5, hk5⟩
        have s5 := s4.nextA hr5 hk5
        clear s4 hr5 hk5 he het
        go_wp2_with fail
        refine ⟨⟨j + 1, A'.tail, by omega, by omega, by go_num, s5⟩, by simp [intOf]; omega⟩
      · refine ⟨⟨j + 1, A', by omega, by omega, by go_num, s4⟩, by simp [intOf]; omega⟩
    · clear hS HN hm
      by_cases hjn : j < n
      · have e64 : ¬ (j : Int) < 100 := by omega
        have e0 : (j : Int) < (n : Int) := by omega
        clear hjl hj64
        go_wp2_with fail
        refine (clear_ok sd.a).mono ?_
        rintro r w4 ⟨rfl, hr4, hk4⟩
        have s4 := sd.nextA hr4 hk4
        clear sd hr4 hk4
        go_wp2_with fail
        refine (many_ok s4.a).mono ?_
        rintro r w5 ⟨rfl, rfl⟩
        go_wp2_with fail
        refine (room_ok s4.a).mono ?_
        rintro r w5 ⟨rfl, rfl⟩
        go_wp2_with fail
        go_loopw [12] (fun iv wr => ∃ (j : Nat) (A : List En), j ≤ n' ∧ j ≤ 100 ∧ iv = .int .i64 j ∧ Two R G Q H room A A w wr) (fun iv _ => 100 - (intOf iv).toNat)
        case atStart => exact ⟨0, [], by omega, by omega, rfl, s4⟩
        case round =>
          clear s4
          obtain ⟨j, A, hj, hj64, rfl, sd⟩ := hrel
          by_cases hjl : j < n' ∧ j < 100
          · obtain ⟨h1, h2⟩ := hjl
            have j0 : (j : Int) < (n' : Int) := by omega
            have j1 : (0 : Int) ≤ (j : Int) := by omega
            have j2 : (j : Int) < 100 := by omega
            obtain ⟨x, hx⟩ : ∃ x, M[j]? = some x := ⟨_, List.getElem?_eq_getElem (by rw [HN'.out]; exact h1)⟩
            obtain ⟨b, o, rfl, _, hbl, hr⟩ := hT.at En.vals_length j x hx
            have hrr := range_block hr (sd.k.block b hbl (by simp))
            clear hx hT
            obtain ⟨A', hM⟩ : ∃ M, Hid ((if A.length < room then A ++ [x] else A) = M) := ⟨_, rfl⟩
            obtain ⟨t, ht2⟩ : ∃ t, Hid (decide (A.length < room) = t) := ⟨_, rfl⟩
            have sd := sd.below ((Below.refl _ _).drew)
            go_wp2_with fail
            refine wp_region_held_drew (S := fun w' => w'.rangeAt b (o + j * 6) x.vals ∧ True) (by kernel_rfl) ⟨by simpa using hrr, trivial⟩ (fun hHeld => ?_)
            refine wpAnyH_take (i := 0) (v := ?v1) rfl (by kernel_rfl) (by kernel_rfl) (by kernel_rfl) (fun _ _ _ h => h) (Or.inl ⟨by rfl, ?hy1⟩) hHeld ?rest1
            case hy1 => (intro w hSw; clear hSw; go_simp; try with_reducible rfl)
            try simp only [List.getElem_toArray]
            try simp only [List.getElem_cons_succ]
            try simp only [List.getElem_cons_zero]
            try simp only [Act.put]
            try simp only [List.setIfInBounds_toArray]
            try simp only [List.set_cons_succ]
            try simp only [List.set_cons_zero]
            refine wpAnyH_take (i := 1) (v := ?v2) rfl (by kernel_rfl) (by kernel_rfl) (by kernel_rfl) (fun _ _ _ h => h) (Or.inl ⟨by rfl, ?hy2⟩) hHeld ?rest2
            case hy2 => (intro w hSw; clear hSw; go_simp; try with_reducible rfl)
            try simp only [List.getElem_toArray]
            try simp only [List.getElem_cons_succ]
            try simp only [List.getElem_cons_zero]
            try simp only [Act.put]
            try simp only [List.setIfInBounds_toArray]
            try simp only [List.set_cons_succ]
            try simp only [List.set_cons_zero]
            refine wpAnyH_take (i := 2) (v := ?v3) rfl (by kernel_rfl) (by kernel_rfl) (by kernel_rfl) (fun _ _ _ h => h) (Or.inl ⟨by rfl, ?hy3⟩) hHeld ?rest3
            case hy3 => (intro w hSw; clear hSw; go_simp; try with_reducible rfl)
            try simp only [List.getElem_toArray]
            try simp only [List.getElem_cons_succ]
            try simp only [List.getElem_cons_zero]
            try simp only [Act.put]
            try simp only [List.setIfInBounds_toArray]
            try simp only [List.set_cons_succ]
            try simp only [List.set_cons_zero]
            refine wpAnyH_take (i := 3) (v := ?v4) rfl (by kernel_rfl) (by kernel_rfl) (by kernel_rfl) (fun _ _ _ h => h) (Or.inl ⟨by rfl, ?hy4⟩) hHeld ?rest4
            case hy4 => (intro w hSw; clear hSw; go_simp; try with_reducible rfl)
            try simp only [List.getElem_toArray]
            try simp only [List.getElem_cons_succ]
            try simp only [List.getElem_cons_zero]
            try simp only [Act.put]
            try simp only [List.setIfInBounds_toArray]
            try simp only [List.set_cons_succ]
            try simp only [List.set_cons_zero]
            refine' wpAnyH_take (i := 4) (v := _) rfl (by kernel_rfl) (by kernel_rfl) (by kernel_rfl) (fun _ _ _ h => h) (yieldsIf_load_mid (by rfl) _ _ rfl b (o + j * 6) rfl x.vals _ ?hS5 Try.underlying30 rfl sizeEn) hHeld ?rest5
            case hS5 => exact fun w h => h.1
            try simp only [List.getElem_toArray]
            try simp only [List.getElem_cons_succ]
            try simp only [List.getElem_cons_zero]
            try simp only [Act.put]
            try simp only [List.setIfInBounds_toArray]
            try simp only [List.set_cons_succ]
            try simp only [List.set_cons_zero]
            refine wpAnyH_take (i := 6) (v := ?v6) rfl (by kernel_rfl) (by kernel_rfl) (by kernel_rfl) (fun _ _ _ h => h) (Or.inl ⟨by rfl, ?hy6⟩) hHeld ?rest6
            case hy6 => (intro w hSw; clear hSw; go_simp; try with_reducible rfl)
            try simp only [List.getElem_toArray]
            try simp only [List.getElem_cons_succ]
            try simp only [List.getElem_cons_zero]
            try simp only [Act.put]
            try simp only [List.setIfInBounds_toArray]
            try simp only [List.set_cons_succ]
            try simp only [List.set_cons_zero]
            refine wpAnyH_take (i := 7) (v := ?v7) rfl (by kernel_rfl) (by kernel_rfl) (by kernel_rfl) (fun _ _ _ h => h) (Or.inl ⟨by rfl, ?hy7⟩) hHeld ?rest7
            case hy7 => (intro w hSw; clear hSw; go_simp; try with_reducible rfl)
            try simp only [List.getElem_toArray]
            try simp only [List.getElem_cons_succ]
            try simp only [List.getElem_cons_zero]
            try simp only [Act.put]
            try simp only [List.setIfInBounds_toArray]
            try simp only [List.set_cons_succ]
            try simp only [List.set_cons_zero]
            refine wpAnyH_take (i := 8) (v := ?v8) rfl (by kernel_rfl) (by kernel_rfl) (by kernel_rfl) (fun _ _ _ h => h) (Or.inl ⟨by rfl, ?hy8⟩) hHeld ?rest8
            case hy8 => (intro w hSw; clear hSw; go_simp; try with_reducible rfl)
            try simp only [List.getElem_toArray]
            try simp only [List.getElem_cons_succ]
            try simp only [List.getElem_cons_zero]
            try simp only [Act.put]
            try simp only [List.setIfInBounds_toArray]
            try simp only [List.set_cons_succ]
            try simp only [List.set_cons_zero]
            refine wpAnyH_take (i := 9) (v := ?v9) rfl (by kernel_rfl) (by kernel_rfl) (by kernel_rfl) (fun _ _ _ h => h) (Or.inl ⟨by rfl, ?hy9⟩) hHeld ?rest9
            case hy9 => (intro w hSw; clear hSw; go_simp; try with_reducible rfl)
            try simp only [List.getElem_toArray]
            try simp only [List.getElem_cons_succ]
            try simp only [List.getElem_cons_zero]
            try simp only [Act.put]
            try simp only [List.setIfInBounds_toArray]
            try simp only [List.set_cons_succ]
            try simp only [List.set_cons_zero]
            refine' wpAnyH_take (i := 10) (v := _) rfl (by kernel_rfl) (by kernel_rfl) (by kernel_rfl) (fun _ _ _ h => h) (yieldsIf_load_mid (by rfl) _ _ rfl b (o + j * 6) rfl x.vals _ ?hS10 Try.underlying30 rfl sizeEn) hHeld ?rest10
            case hS10 => exact fun w h => h.1
            try simp only [List.getElem_toArray]
            try simp only [List.getElem_cons_succ]
            try simp only [List.getElem_cons_zero]
            try simp only [Act.put]
            try simp only [List.setIfInBounds_toArray]
            try simp only [List.set_cons_succ]
            try simp only [List.set_cons_zero]
            refine wpAnyH_ready (rs := [5]) (by kernel_rfl) (by simp) ?_
            refine AllReadyH.cons rfl (fun K hK => ?_) (AllReadyH.nil)
            go_simp
            go_wp2_with (refine (push_as sd.a x hM ht2).mono ?_; rintro r w5 ⟨rfl, hr5, hk5⟩)
            have s5 := sd.nextA hr5 hk5
            have hr5 := range_block hr (s5.k.block b hbl (by simp))
            clear hHeld sd hk5
            refine hK.out _ _ ⟨hr5, trivial⟩ (fun hHeld => ?_)
            clear hK K
            refine wpAnyH_ready (rs := [11]) (by kernel_rfl) (by simp) ?_
            refine AllReadyH.cons rfl (fun K hK => ?_) (AllReadyH.nil)
            go_simp
            go_wp2_with (refine (push_as s5.b x hM ht2).mono ?_; rintro r w6 ⟨rfl, hr6, hk6⟩)
            have s6 := s5.nextB hr6 hk6
            have hr6 := range_block hr (s6.k.block b hbl (by simp))
            clear hHeld s5 hk6
            refine hK.out _ _ ⟨hr6, trivial⟩ (fun hHeld => ?_)
            clear hK K
            refine wpAnyH_take (i := 12) (v := ?v11) rfl (by kernel_rfl) (by kernel_rfl) (by kernel_rfl) (fun _ _ _ h => h) (Or.inl ⟨by rfl, ?hy11⟩) hHeld ?rest11
            case hy11 => (intro w hSw; clear hSw; go_simp; try with_reducible rfl)
            try simp only [List.getElem_toArray]
            try simp only [List.getElem_cons_succ]
            try simp only [List.getElem_cons_zero]
            try simp only [Act.put]
            try simp only [List.setIfInBounds_toArray]
            try simp only [List.set_cons_succ]
            try simp only [List.set_cons_zero]
            refine wpAnyH_done (by kernel_rfl) ?_ _
            clear hHeld hr6 hrr
            go_wp2_with fail
            refine ⟨⟨j + 1, A', by omega, by omega, by go_num, s6⟩, by simp [intOf]; omega⟩
          · clear hT HN' hmm
            by_cases hjn' : j < n'
            · have f64 : ¬ (j : Int) < 100 := by omega
              have f0 : (j : Int) < (n' : Int) := by omega
              clear hjl hj64
              go_wp2_with fail
              go_loopw [13] (fun iv wr => ∃ (i : Nat) (K : List En), i ≤ 65 ∧ iv = .int .i64 i ∧ Two R G Q H room K K w wr) (fun iv _ => 65 - (intOf iv).toNat)
              case atStart => exact ⟨0, A, by omega, rfl, sd⟩
              case round =>
                clear sd
                obtain ⟨i, K, hi, rfl, ht⟩ := hrel
                by_cases hil : i < 65
                · have i0 : (i : Int) ≤ 64 := by omega
                  obtain ⟨e, he⟩ : ∃ e, Hid (K.headD En.zero = e) := ⟨_, rfl⟩
                  obtain ⟨t, het⟩ : ∃ t, Hid ((!K.isEmpty) = t) := ⟨_, rfl⟩
                  have keq := neqEn e e true (En.same_self _)
                  go_wp2_with fail
                  refine (pop_as ht.a he het).mono ?_
                  rintro r w7 ⟨rfl, hr7, hk7⟩
                  have s7 := ht.nextA hr7 hk7
                  have s8 := s7.alloc (.cells e.arr 30)
                  have x8 := blk_new w7 e.arr 30
                  have n8 : w7.heap.size ∉ [Q, H] := s7.neB (Nat.le_refl _)
                  clear ht hr7 hk7 s7
                  go_wp2_with (first | refine alloc_zero zeroEn rfl rfl ?_ | refine store_new rfl 30 _ _ rfl rfl rfl e.size rfl e.arr_one ?_)
                  refine (pop_as s8.b he het).mono ?_
                  rintro r w9 ⟨rfl, hr9, hk9⟩
                  have s9 := (s8.nextB hr9 hk9).alloc (.cells e.arr 30)
                  have x9 := (x8.kp hk9 n8).alloc (.cells e.arr 30)
                  have y9 := blk_new w9 e.arr 30
                  clear s8 hr9 hk9 x8
                  go_wp2_with (first | refine alloc_zero zeroEn rfl rfl ?_ | refine store_new rfl 30 _ _ rfl rfl rfl e.size rfl e.arr_one ?_ | refine load_blk rfl 30 _ rfl x9 rfl Try.underlying30 rfl e.size ?_ | refine load_blk rfl 30 _ rfl y9 rfl Try.underlying30 rfl e.size ?_)
                  refine ⟨⟨i + 1, K.tail, by omega, by go_num, s9⟩, by simp [intOf]; omega⟩
                · obtain rfl : i = 65 := by omega
                  go_wp2_with fail
                  go_ret
                  exact ⟨rfl, ht.k.all⟩
            · have f0 : ¬ (j : Int) < (n' : Int) := by omega
              clear hjl hj64
              go_wp2_with fail
              go_loopw [13] (fun iv wr => ∃ (i : Nat) (K : List En), i ≤ 65 ∧ iv = .int .i64 i ∧ Two R G Q H room K K w wr) (fun iv _ => 65 - (intOf iv).toNat)
              case atStart => exact ⟨0, A, by omega, rfl, sd⟩
              case round =>
                clear sd
                obtain ⟨i, K, hi, rfl, ht⟩ := hrel
                by_cases hil : i < 65
                · have i0 : (i : Int) ≤ 64 := by omega
                  obtain ⟨e, he⟩ : ∃ e, Hid (K.headD En.zero = e) := ⟨_, rfl⟩
                  obtain ⟨t, het⟩ : ∃ t, Hid ((!K.isEmpty) = t) := ⟨_, rfl⟩
                  have keq := neqEn e e true (En.same_self _)
                  go_wp2_with fail
                  refine (pop_as ht.a he het).mono ?_
                  rintro r w7 ⟨rfl, hr7, hk7⟩
                  have s7 := ht.nextA hr7 hk7
                  have s8 := s7.alloc (.cells e.arr 30)
                  have x8 := blk_new w7 e.arr 30
                  have n8 : w7.heap.size ∉ [Q, H] := s7.neB (Nat.le_refl _)
                  clear ht hr7 hk7 s7
                  go_wp2_with (first | refine alloc_zero zeroEn rfl rfl ?_ | refine store_new rfl 30 _ _ rfl rfl rfl e.size rfl e.arr_one ?_)
                  refine (pop_as s8.b he het).mono ?_
                  rintro r w9 ⟨rfl, hr9, hk9⟩
                  have s9 := (s8.nextB hr9 hk9).alloc (.cells e.arr 30)
                  have x9 := (x8.kp hk9 n8).alloc (.cells e.arr 30)
                  have y9 := blk_new w9 e.arr 30
                  clear s8 hr9 hk9 x8
                  go_wp2_with (first | refine alloc_zero zeroEn rfl rfl ?_ | refine store_new rfl 30 _ _ rfl rfl rfl e.size rfl e.arr_one ?_ | refine load_blk rfl 30 _ rfl x9 rfl Try.underlying30 rfl e.size ?_ | refine load_blk rfl 30 _ rfl y9 rfl Try.underlying30 rfl e.size ?_)
                  refine ⟨⟨i + 1, K.tail, by omega, by go_num, s9⟩, by simp [intOf]; omega⟩
                · obtain rfl : i = 65 := by omega
                  go_wp2_with fail
                  go_ret
                  exact ⟨rfl, ht.k.all⟩
      · have e0 : ¬ (j : Int) < (n : Int) := by omega
        clear hjl hj64
        go_wp2_with fail
        refine (clear_ok sd.a).mono ?_
        rintro r w4 ⟨rfl, hr4, hk4⟩
        have s4 := sd.nextA hr4 hk4
        clear sd hr4 hk4
        go_wp2_with fail
        refine (many_ok s4.a).mono ?_
        rintro r w5 ⟨rfl, rfl⟩
        go_wp2_with fail
        refine (room_ok s4.a).mono ?_
        rintro r w5 ⟨rfl, rfl⟩
        go_wp2_with fail
        go_loopw [12] (fun iv wr => ∃ (j : Nat) (A : List En), j ≤ n' ∧ j ≤ 100 ∧ iv = .int .i64 j ∧ Two R G Q H room A A w wr) (fun iv _ => 100 - (intOf iv).toNat)
        case atStart => exact ⟨0, [], by omega, by omega, rfl, s4⟩
        case round =>
          clear s4
          obtain ⟨j, A, hj, hj64, rfl, sd⟩ := hrel
          by_cases hjl : j < n' ∧ j < 100
          · obtain ⟨h1, h2⟩ := hjl
            have j0 : (j : Int) < (n' : Int) := by omega
            have j1 : (0 : Int) ≤ (j : Int) := by omega
            have j2 : (j : Int) < 100 := by omega
            obtain ⟨x, hx⟩ : ∃ x, M[j]? = some x := ⟨_, List.getElem?_eq_getElem (by rw [HN'.out]; exact h1)⟩
            obtain ⟨b, o, rfl, _, hbl, hr⟩ := hT.at En.vals_length j x hx
            have hrr := range_block hr (sd.k.block b hbl (by simp))
            clear hx hT
            obtain ⟨A', hM⟩ : ∃ M, Hid ((if A.length < room then A ++ [x] else A) = M) := ⟨_, rfl⟩
            obtain ⟨t, ht2⟩ : ∃ t, Hid (decide (A.length < room) = t) := ⟨_, rfl⟩
            have sd := sd.below ((Below.refl _ _).drew)
            go_wp2_with fail
            refine wp_region_held_drew (S := fun w' => w'.rangeAt b (o + j * 6) x.vals ∧ True) (by kernel_rfl) ⟨by simpa using hrr, trivial⟩ (fun hHeld => ?_)
            refine wpAnyH_take (i := 0) (v := ?v12) rfl (by kernel_rfl) (by kernel_rfl) (by kernel_rfl) (fun _ _ _ h => h) (Or.inl ⟨by rfl, ?hy12⟩) hHeld ?rest12
            case hy12 => (intro w hSw; clear hSw; go_simp; try with_reducible rfl)
            try simp only [List.getElem_toArray]
            try simp only [List.getElem_cons_succ]
            try simp only [List.getElem_cons_zero]
            try simp only [Act.put]
            try simp only [List.setIfInBounds_toArray]
            try simp only [List.set_cons_succ]
            try simp only [List.set_cons_zero]
            refine wpAnyH_take (i := 1) (v := ?v13) rfl (by kernel_rfl) (by kernel_rfl) (by kernel_rfl) (fun _ _ _ h => h) (Or.inl ⟨by rfl, ?hy13⟩) hHeld ?rest13
            case hy13 => (intro w hSw; clear hSw; go_simp; try with_reducible rfl)
            try simp only [List.getElem_toArray]
            try simp only [List.getElem_cons_succ]
            try simp only [List.getElem_cons_zero]
            try simp only [Act.put]
            try simp only [List.setIfInBounds_toArray]
            try simp only [List.set_cons_succ]
            try simp only [List.set_cons_zero]
            refine wpAnyH_take (i := 2) (v := ?v14) rfl (by kernel_rfl) (by kernel_rfl) (by kernel_rfl) (fun _ _ _ h => h) (Or.inl ⟨by rfl, ?hy14⟩) hHeld ?rest14
            case hy14 => (intro w hSw; clear hSw; go_simp; try with_reducible rfl)
            try simp only [List.getElem_toArray]
            try simp only [List.getElem_cons_succ]
            try simp only [List.getElem_cons_zero]
            try simp only [Act.put]
            try simp only [List.setIfInBounds_toArray]
            try simp only [List.set_cons_succ]
            try simp only [List.set_cons_zero]
            refine wpAnyH_take (i := 3) (v := ?v15) rfl (by kernel_rfl) (by kernel_rfl) (by kernel_rfl) (fun _ _ _ h => h) (Or.inl ⟨by rfl, ?hy15⟩) hHeld ?rest15
            case hy15 => (intro w hSw; clear hSw; go_simp; try with_reducible rfl)
            try simp only [List.getElem_toArray]
            try simp only [List.getElem_cons_succ]
            try simp only [List.getElem_cons_zero]
            try simp only [Act.put]
            try simp only [List.setIfInBounds_toArray]
            try simp only [List.set_cons_succ]
            try simp only [List.set_cons_zero]
            refine' wpAnyH_take (i := 4) (v := _) rfl (by kernel_rfl) (by kernel_rfl) (by kernel_rfl) (fun _ _ _ h => h) (yieldsIf_load_mid (by rfl) _ _ rfl b (o + j * 6) rfl x.vals _ ?hS16 Try.underlying30 rfl sizeEn) hHeld ?rest16
            case hS16 => exact fun w h => h.1
            try simp only [List.getElem_toArray]
            try simp only [List.getElem_cons_succ]
            try simp only [List.getElem_cons_zero]
            try simp only [Act.put]
            try simp only [List.setIfInBounds_toArray]
            try simp only [List.set_cons_succ]
            try simp only [List.set_cons_zero]
            refine wpAnyH_take (i := 6) (v := ?v17) rfl (by kernel_rfl) (by kernel_rfl) (by kernel_rfl) (fun _ _ _ h => h) (Or.inl ⟨by rfl, ?hy17⟩) hHeld ?rest17
            case hy17 => (intro w hSw; clear hSw; go_simp; try with_reducible rfl)
            try simp only [List.getElem_toArray]
            try simp only [List.getElem_cons_succ]
            try simp only [List.getElem_cons_zero]
            try simp only [Act.put]
            try simp only [List.setIfInBounds_toArray]
            try simp only [List.set_cons_succ]
            try simp only [List.set_cons_zero]
            refine wpAnyH_take (i := 7) (v := ?v18) rfl (by kernel_rfl) (by kernel_rfl) (by kernel_rfl) (fun _ _ _ h => h) (Or.inl ⟨by rfl, ?hy18⟩) hHeld ?rest18
            case hy18 => (intro w hSw; clear hSw; go_simp; try with_reducible rfl)
            try simp only [List.getElem_toArray]
            try simp only [List.getElem_cons_succ]
            try simp only [List.getElem_cons_zero]
            try simp only [Act.put]
            try simp only [List.setIfInBounds_toArray]
            try simp only [List.set_cons_succ]
            try simp only [List.set_cons_zero]
            refine wpAnyH_take (i := 8) (v := ?v19) rfl (by kernel_rfl) (by kernel_rfl) (by kernel_rfl) (fun _ _ _ h => h) (Or.inl ⟨by rfl, ?hy19⟩) hHeld ?rest19
            case hy19 => (intro w hSw; clear hSw; go_simp; try with_reducible rfl)
            try simp only [List.getElem_toArray]
            try simp only [List.getElem_cons_succ]
            try simp only [List.getElem_cons_zero]
            try simp only [Act.put]
            try simp only [List.setIfInBounds_toArray]
            try simp only [List.set_cons_succ]
            try simp only [List.set_cons_zero]
            refine wpAnyH_take (i := 9) (v := ?v20) rfl (by kernel_rfl) (by kernel_rfl) (by kernel_rfl) (fun _ _ _ h => h) (Or.inl ⟨by rfl, ?hy20⟩) hHeld ?rest20
            case hy20 => (intro w hSw; clear hSw; go_simp; try with_reducible rfl)
            try simp only [List.getElem_toArray]
            try simp only [List.getElem_cons_succ]
            try simp only [List.getElem_cons_zero]
            try simp only [Act.put]
            try simp only [List.setIfInBounds_toArray]
            try simp only [List.set_cons_succ]
            try simp only [List.set_cons_zero]
            refine' wpAnyH_take (i := 10) (v := _) rfl (by kernel_rfl) (by kernel_rfl) (by kernel_rfl) (fun _ _ _ h => h) (yieldsIf_load_mid (by rfl) _ _ rfl b (o + j * 6) rfl x.vals _ ?hS21 Try.underlying30 rfl sizeEn) hHeld ?rest21
            case hS21 => exact fun w h => h.1
            try simp only [List.getElem_toArray]
            try simp only [List.getElem_cons_succ]
            try simp only [List.getElem_cons_zero]
            try simp only [Act.put]
            try simp only [List.setIfInBounds_toArray]
            try simp only [List.set_cons_succ]
            try simp only [List.set_cons_zero]
            refine wpAnyH_ready (rs := [5]) (by kernel_rfl) (by simp) ?_
            refine AllReadyH.cons rfl (fun K hK => ?_) (AllReadyH.nil)
            go_simp
            go_wp2_with (refine (push_as sd.a x hM ht2).mono ?_; rintro r w5 ⟨rfl, hr5, hk5⟩)
            have s5 := sd.nextA hr5 hk5
            have hr5 := range_block hr (s5.k.block b hbl (by simp))
            clear hHeld sd hk5
            refine hK.out _ _ ⟨hr5, trivial⟩ (fun hHeld => ?_)
            clear hK K
            refine wpAnyH_ready (rs := [11]) (by kernel_rfl) (by simp) ?_
            refine AllReadyH.cons rfl (fun K hK => ?_) (AllReadyH.nil)
            go_simp
            go_wp2_with (refine (push_as s5.b x hM ht2).mono ?_; rintro r w6 ⟨rfl, hr6, hk6⟩)
            have s6 := s5.nextB hr6 hk6
            have hr6 := range_block hr (s6.k.block b hbl (by simp))
            clear hHeld s5 hk6
            refine hK.out _ _ ⟨hr6, trivial⟩ (fun hHeld => ?_)
            clear hK K
            refine wpAnyH_take (i := 12) (v := ?v22) rfl (by kernel_rfl) (by kernel_rfl) (by kernel_rfl) (fun _ _ _ h => h) (Or.inl ⟨by rfl, ?hy22⟩) hHeld ?rest22
            case hy22 => (intro w hSw; clear hSw; go_simp; try with_reducible rfl)
            try simp only [List.getElem_toArray]
            try simp only [List.getElem_cons_succ]
            try simp only [List.getElem_cons_zero]
            try simp only [Act.put]
            try simp only [List.setIfInBounds_toArray]
            try simp only [List.set_cons_succ]
            try simp only [List.set_cons_zero]
            refine wpAnyH_done (by kernel_rfl) ?_ _
            clear hHeld hr6 hrr
            go_wp2_with fail
            refine ⟨⟨j + 1, A', by omega, by omega, by go_num, s6⟩, by simp [intOf]; omega⟩
          · clear hT HN' hmm
            by_cases hjn' : j < n'
            · have f64 : ¬ (j : Int) < 100 := by omega
              have f0 : (j : Int) < (n' : Int) := by omega
              clear hjl hj64
              go_wp2_with fail
              go_loopw [13] (fun iv wr => ∃ (i : Nat) (K : List En), i ≤ 65 ∧ iv = .int .i64 i ∧ Two R G Q H room K K w wr) (fun iv _ => 65 - (intOf iv).toNat)
              case atStart => exact ⟨0, A, by omega, rfl, sd⟩
              case round =>
                clear sd
                obtain ⟨i, K, hi, rfl, ht⟩ := hrel
                by_cases hil : i < 65
                · have i0 : (i : Int) ≤ 64 := by omega
                  obtain ⟨e, he⟩ : ∃ e, Hid (K.headD En.zero = e) := ⟨_, rfl⟩
                  obtain ⟨t, het⟩ : ∃ t, Hid ((!K.isEmpty) = t) := ⟨_, rfl⟩
                  have keq := neqEn e e true (En.same_self _)
                  go_wp2_with fail
                  refine (pop_as ht.a he het).mono ?_
                  rintro r w7 ⟨rfl, hr7, hk7⟩
                  have s7 := ht.nextA hr7 hk7
                  have s8 := s7.alloc (.cells e.arr 30)
                  have x8 := blk_new w7 e.arr 30
                  have n8 : w7.heap.size ∉ [Q, H] := s7.neB (Nat.le_refl _)
                  clear ht hr7 hk7 s7
                  go_wp2_with (first | refine alloc_zero zeroEn rfl rfl ?_ | refine store_new rfl 30 _ _ rfl rfl rfl e.size rfl e.arr_one ?_)
                  refine (pop_as s8.b he het).mono ?_
                  rintro r w9 ⟨rfl, hr9, hk9⟩
                  have s9 := (s8.nextB hr9 hk9).alloc (.cells e.arr 30)
                  have x9 := (x8.kp hk9 n8).alloc (.cells e.arr 30)
                  have y9 := blk_new w9 e.arr 30
                  clear s8 hr9 hk9 x8
                  go_wp2_with (first | refine alloc_zero zeroEn rfl rfl ?_ | refine store_new rfl 30 _ _ rfl rfl rfl e.size rfl e.arr_one ?_ | refine load_blk rfl 30 _ rfl x9 rfl Try.underlying30 rfl e.size ?_ | refine load_blk rfl 30 _ rfl y9 rfl Try.underlying30 rfl e.size ?_)
                  refine ⟨⟨i + 1, K.tail, by omega, by go_num, s9⟩, by simp [intOf]; omega⟩
                · obtain rfl : i = 65 := by omega
                  go_wp2_with fail
                  go_ret
                  exact ⟨rfl, ht.k.all⟩
            · have f0 : ¬ (j : Int) < (n' : Int) := by omega
              clear hjl hj64
              go_wp2_with fail
              go_loopw [13] (fun iv wr => ∃ (i : Nat) (K : List En), i ≤ 65 ∧ iv = .int .i64 i ∧ Two R G Q H room K K w wr) (fun iv _ => 65 - (intOf iv).toNat)
              case atStart => exact ⟨0, A, by omega, rfl, sd⟩
              case round =>
                clear sd
                obtain ⟨i, K, hi, rfl, ht⟩ := hrel
                by_cases hil : i < 65
                · have i0 : (i : Int) ≤ 64 := by omega
                  obtain ⟨e, he⟩ : ∃ e, Hid (K.headD En.zero = e) := ⟨_, rfl⟩
                  obtain ⟨t, het⟩ : ∃ t, Hid ((!K.isEmpty) = t) := ⟨_, rfl⟩
                  have keq := neqEn e e true (En.same_self _)
                  go_wp2_with fail
                  refine (pop_as ht.a he het).mono ?_
                  rintro r w7 ⟨rfl, hr7, hk7⟩
                  have s7 := ht.nextA hr7 hk7
                  have s8 := s7.alloc (.cells e.arr 30)
                  have x8 := blk_new w7 e.arr 30
                  have n8 : w7.heap.size ∉ [Q, H] := s7.neB (Nat.le_refl _)
                  clear ht hr7 hk7 s7
                  go_wp2_with (first | refine alloc_zero zeroEn rfl rfl ?_ | refine store_new rfl 30 _ _ rfl rfl rfl e.size rfl e.arr_one ?_)
                  refine (pop_as s8.b he het).mono ?_
                  rintro r w9 ⟨rfl, hr9, hk9⟩
                  have s9 := (s8.nextB hr9 hk9).alloc (.cells e.arr 30)
                  have x9 := (x8.kp hk9 n8).alloc (.cells e.arr 30)
                  have y9 := blk_new w9 e.arr 30
                  clear s8 hr9 hk9 x8
                  go_wp2_with (first | refine alloc_zero zeroEn rfl rfl ?_ | refine store_new rfl 30 _ _ rfl rfl rfl e.size rfl e.arr_one ?_ | refine load_blk rfl 30 _ rfl x9 rfl Try.underlying30 rfl e.size ?_ | refine load_blk rfl 30 _ rfl y9 rfl Try.underlying30 rfl e.size ?_)
                  refine ⟨⟨i + 1, K.tail, by omega, by go_num, s9⟩, by simp [intOf]; omega⟩
                · obtain rfl : i = 65 := by omega
                  go_wp2_with fail
                  go_ret
                  exact ⟨rfl, ht.k.all⟩
theorem walk (n : Int) (_wn : (Lit.int .i64 n).wf = true) (la : Option Addr) (L : List En) (lc : Nat) (lm : L.length ≤ maxLen) (ma : Option Addr) (M : List En) (mc : Nat) (mm : M.length ≤ maxLen) (w : World) (hS : Li En.vals 0 la L w) (hT : Li En.vals 0 ma M w) :
    Calls Try.prog 6 #[.int .i64 n, .slice la L.length lc, .slice ma M.length mc] w fun e w' => e = .returned (.bool true) ∧ Below w.heap.size w w' := by
  by_cases hn : n < 0 ∨ 64 < n
  · exact walk_no n hn la _ lc ma _ mc w
  · obtain ⟨room, rfl⟩ : ∃ room : Nat, n = (room : Int) := ⟨n.toNat, by omega⟩
    exact walk_in room (by omega) la L lc lm ma M mc mm w hS hT

set_option maxRecDepth 100000 in
theorem lifted (os : Os) (started : os.Started) (H : Type) (enc : TypeId × Value → H) :
    ReturnsInHanded {} Try.checked os 6 .any (Rows.ringClearsSpec.pre6 enc Try.prog Try.f6 Rows.ringClearsRow.domain false) (Rows.ringClearsSpec.post enc Try.prog Try.f6 false true false false) := by
  refine returnsInHanded_of_change_sized (C := Try.checked) own started (by kernel_rfl) Try.func6
    (ChangeSpec.witness6 (enc := enc) (C := Try.checked) false ⟨#[], #[.int .i64 0, .slice none 0 0, .slice none 0 0], []⟩ 8 (by kernel_rfl) (by kernel_rfl) (by kernel_rfl) (by kernel_rfl)) ?_
  intro W base args ds gs before hval0 hW hcnd hsz0 _
  have hval : ∀ (j : Nat) t v, Try.f6.params[j]? = some t → args[j]? = some v → Value.okWide Try.prog W .any base t v := hval0
  have hsz : (DataW.weightsEach Try.prog (Try.f6.params.toList ++ Rows.ringClearsSpec.plain.varTypes Try.prog) (ds ++ gs)).all (· ≤ reachBytes) = true := hsz0
  have hW' := hW
  obtain ⟨p, q, hA0, hV, rfl, hfz, hnd⟩ := hW
  have hA : DataW.TrodAll enc Try.prog W 0 (fun _ => true) true Try.f6.params.toList args.toList ds p := hA0
  rw [Try.params6] at hA hval hsz

  obtain ⟨v0, vs0, d0, ds0, p0, q0, hargs, rfl, rfl, h0, r0⟩ := trodAll_cons hA
  obtain ⟨v1, vs1, d1, ds1, p1, q1, rfl, rfl, rfl, h1, r1⟩ := trodAll_cons r0
  obtain ⟨v2, vs2, d2, ds2, p2, q2, rfl, rfl, rfl, h2, r2⟩ := trodAll_cons r1
  obtain ⟨rfl, rfl, rfl⟩ := trodAll_nil r2
  obtain rfl : args = #[v0, v1, v2] := by cases args; simp_all
  obtain ⟨rfl, rfl⟩ := trodVars_none hV
  obtain ⟨a0, rfl, rfl, rfl, w0⟩ := open_int Try.underlying3 (hval 0 3 v0 rfl rfl) h0
  obtain ⟨la1, L1, lc1, rfl, lm1, hS1⟩ := open_ens (okWide_slice Try.underlying27 (hval 1 27 v1 rfl rfl)) h1
  obtain ⟨la2, L2, lc2, rfl, lm2, hS2⟩ := open_ens (okWide_slice Try.underlying27 (hval 2 27 v2 rfl rfl)) h2
  have hA2 := hA0
  clear hA0 hval0 hsz0
  simp only [List.append_nil] at hW'
  refine (walk a0 w0 la1 L1 lc1 lm1 la2 L2 lc2 lm2 W hS1 hS2).mono fun e W' ⟨he, bel⟩ => ?_
  subst he
  exact ⟨_, rfl, _, _, _, [], _, [], hW', trodAll_mk1 (shut_bool Try.underlying4 _), (stays_all laidOut bel (by kernel_rfl) hA2), rfl, bel.frame _, fun h => by cases h⟩

theorem over : Rows.ringClearsRow.holds Try.pinned (OpenSpec.ofChange Rows.ringClearsSpec) :=
  OpenClaim.holds_of_wide 6 Try.f6 rfl rfl rfl rfl rfl rfl rfl ⟨rfl, rfl, rfl, rfl, rfl⟩ rfl rfl rfl rfl rfl (by kernel_rfl) Try.func6 (by kernel_rfl)
    (of_decide_eq_true (by kernel_rfl)) (by unfold Func.isWrapper; first | (rw [if_pos (by decide +kernel)]; kernel_rfl) | (rw [if_neg (by decide +kernel)]; exact ⟨rfl, rfl⟩))
    (fun os started H enc _ => lifted os started H enc)

end Go.Proofs.Ytleecgoppplioaa.ringClears
namespace Go.Proofs.Ytleecgoppplioaa

theorem ringClears_holds : Rows.RingClearsSaid := ringClears.over
#print axioms ringClears_holds

end Go.Proofs.Ytleecgoppplioaa
