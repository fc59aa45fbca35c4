/-
  What a ring holds and tells, by any acts, is as the document says, act by act: the law RingPlays returns true for every input.
  No condition beyond the form's own.
-/
import Derived.Test.YtleecgoppplioaaRows
import Derived.Test.YtleecgoppplioaaRgW
import Derived.WalkKit
import Derived.ProofKit
import Derived.OpenShut
import Derived.ShutString
import Derived.SizedLaws
import Derived.ChangeOld
import Derived.Below
namespace Go.Proofs.Ytleecgoppplioaa.ringPlays
open Go.Sort Go.ChangeShapes Go.WideShapes Go.ChangeAt Go.RowKit
open Go.ChangeMaps (open_string shut_string)
set_option linter.unusedVariables false
set_option maxRecDepth 10000

theorem own : ownKnob Try.prog.godebug = none := by kernel_rfl
theorem length_bytes (s : ByteArray) : s.data.toList.length = s.size := by rw [Array.length_toList]; rfl

set_option maxHeartbeats 4000000 in
theorem walk_no (n : Int) (hn : n < 0 ∨ 64 < n) (la : Option Addr) (ll lc : Nat) (w : World) : Calls Try.prog 3 #[.int .i64 n, .slice la ll lc] w fun e w' => e = .returned (.bool true) ∧ Below w.heap.size w w' := by
  by_cases h0 : n < 0
  · go_enter Try.func3, Try.ntmps3
    go_wp2_with fail
    refine (new_no n hn w).mono ?_
    rintro r w1 ⟨rfl, rfl⟩
    go_wp2_with fail
    refine (fixed_any _).mono ?_
    rintro r w2 ⟨rfl, hb2⟩
    have hb2 := hb2.alloc hb2.size (.cells #[] 30)
    go_wp2_with fail
    go_loopw [8] (fun iv wr => iv = .int .i64 0 ∧ Below w1.heap.size w1 wr) (fun _ _ => 0)
    case atStart => exact ⟨rfl, hb2⟩
    case round =>
      obtain ⟨rfl, hb3⟩ := hrel
      go_wp2_with fail
      go_ret
      exact ⟨rfl, hb3⟩
  · have h1 : 64 < n := by omega
    have h2 : 0 ≤ n := by omega
    go_enter Try.func3, Try.ntmps3
    go_wp2_with fail
    refine (new_no n hn w).mono ?_
    rintro r w1 ⟨rfl, rfl⟩
    go_wp2_with fail
    refine (fixed_any _).mono ?_
    rintro r w2 ⟨rfl, hb2⟩
    have hb2 := hb2.alloc hb2.size (.cells #[] 30)
    go_wp2_with fail
    go_loopw [8] (fun iv wr => iv = .int .i64 0 ∧ Below w1.heap.size w1 wr) (fun _ _ => 0)
    case atStart => exact ⟨rfl, hb2⟩
    case round =>
      obtain ⟨rfl, hb3⟩ := hrel
      go_wp2_with fail
      go_ret
      exact ⟨rfl, hb3⟩

set_option maxHeartbeats 32000000 in
theorem walk_in (room : Nat) (hroom : room ≤ 64) (la : Option Addr) (L : List Ac) (lc : Nat) (lm : L.length ≤ maxLen) (w : World) (hS : Li Ac.vals 0 la L w) :
    Calls Try.prog 3 #[.int .i64 (room : Int), .slice la L.length lc] w fun e w' => e = .returned (.bool true) ∧ Below w.heap.size w w' := by
  obtain ⟨n, hn⟩ : ∃ n, L.length = n := ⟨_, rfl⟩
  rw [hn]
  have HN : Hid (L.length = n) := hn
  have r0 : (0 : Int) ≤ (room : Int) := by omega
  have r1 : (room : Int) ≤ 64 := by omega
  clear hn lm
  go_enter Try.func3, Try.ntmps3
  go_wp2_with fail
  refine (new_ok room hroom w).mono ?_
  rintro r w1 ⟨R, G, rfl, hR, hG, hr1, hb1⟩
  go_wp2_with fail
  refine (fixed_any w1).mono ?_
  rintro r w3 ⟨rfl, hb⟩
  obtain ⟨B, hB⟩ : ∃ B, Hid (w1.heap.size = B) := ⟨_, rfl⟩
  have pl : Pl R G room B [] (some ⟨w3.heap.size, 0, none⟩) [] w (w3.alloc (.cells #[] 30)) := by
    have hl := hr1.lt
    have hs := hb.size
    rw [hB.out] at hl hs
    exact ⟨(hr1.below hb).below (below_box _ _), Li.nil _ _ _, ((Kp.of_below hb1).trans (Kp.of_below hb)).trans (Kp.alloc _ _ _), ⟨hR, hG⟩, hl.1, hl.2, by simp; omega⟩
  clear hr1 hb1 hb hR hG
  go_wp2_with fail
  go_loopw [7, 8] (fun v7 iv wr => ∃ (j : Nat) (H : List En) (a : Option Addr) (c : Nat), j ≤ n ∧ j ≤ 300 ∧ iv = .int .i64 j ∧ v7 = .slice a H.length c ∧ H.length ≤ c ∧ Pl R G room B H a H w wr) (fun _ iv _ => 300 - (intOf iv).toNat)
  case atStart => exact ⟨0, [], _, _, by omega, by omega, rfl, rfl, by simp, pl⟩
  case round =>
    clear pl
    obtain ⟨j, H, a, c, hj, hj64, rfl, rfl, hc, pl⟩ := hrel
    by_cases hjl : j < n ∧ j < 300
    · obtain ⟨h1, h2⟩ := hjl
      have j0 : (j : Int) < (n : Int) := by omega
      have j1 : (0 : Int) ≤ (j : Int) := by omega
      have j2 : (j : Int) < 300 := by omega
      obtain ⟨x, hx⟩ : ∃ x, L[j]? = some x := ⟨_, List.getElem?_eq_getElem (by rw [HN.out]; exact h1)⟩
      obtain ⟨b, o, rfl, _, hbl, hr⟩ := hS.at Ac.vals_length j x hx
      have hrr := range_block hr (pl.k.block b hbl (by simp))
      have pl := pl.alloc (.cells x.arr 32)
      have x4 := blk_new wr x.arr 32
      obtain ⟨q0, q1, q8⟩ := ac_cells x4
      clear hx
      by_cases d0 : x.d = 0
      · by_cases hlt : H.length < room
        · go_wp2_with (first | refine load_range rfl 32 _ rfl x.vals hrr rfl Try.underlying32 rfl sizeAc ?_ | refine alloc_zero zeroAc rfl rfl ?_ | refine store_new rfl 32 _ _ rfl rfl rfl x.size rfl x.arr_one ?_ | refine load_part rfl 30 _ rfl x4 rfl x.e.vals x.part Try.underlying30 rfl sizeEn ?_)
          refine (rpush_room pl.li c room hroom hlt x.e).mono ?_
          rintro r w5 ⟨a2, c2, rfl, hl5, hb5, hc5⟩
          have pl5 := pl.fresh hb5 hl5
          have x5 := x4.below hb5
          obtain ⟨H2, hH2⟩ : ∃ H2, Hid (H ++ [x.e] = H2) := ⟨_, rfl⟩
          rw [hH2.out] at pl5 hc5 ⊢
          clear hl5 hb5 pl x4
          go_wp2_with (refine load_part rfl 30 _ rfl x5 rfl x.e.vals x.part Try.underlying30 rfl sizeEn ?_)
          refine (push_in pl5.rg hlt x.e).mono ?_
          rintro r w6 ⟨rfl, hr6, hk6⟩
          have pl6 := pl5.ring hr6 hk6
          rw [hH2.out] at pl6
          clear hr6 hk6 pl5 x5
          go_wp2_with fail
          have hle := pl6.rg.le
          refine (many_ok pl6.rg).mono ?_
          rintro r w8 ⟨rfl, rfl⟩
          go_wp2_with fail
          refine (room_ok pl6.rg).mono ?_
          rintro r w8 ⟨rfl, rfl⟩
          go_wp2_with fail
          refine ⟨⟨j + 1, H2, a2, c2, by omega, by omega, by go_num, rfl, hc5, pl6⟩, by simp [intOf]; omega⟩
        · have hge : room ≤ H.length := by omega
          go_wp2_with (first | refine load_range rfl 32 _ rfl x.vals hrr rfl Try.underlying32 rfl sizeAc ?_ | refine alloc_zero zeroAc rfl rfl ?_ | refine store_new rfl 32 _ _ rfl rfl rfl x.size rfl x.arr_one ?_ | refine load_part rfl 30 _ rfl x4 rfl x.e.vals x.part Try.underlying30 rfl sizeEn ?_)
          refine (rpush_full a H _ c room hge x.e).mono ?_
          rintro r w5 ⟨rfl, hb5⟩
          have pl5 := pl.below hb5
          have x5 := x4.below hb5
          clear hb5 pl x4
          go_wp2_with (refine load_part rfl 30 _ rfl x5 rfl x.e.vals x.part Try.underlying30 rfl sizeEn ?_)
          refine (push_no pl5.rg (by have := pl5.rg.le.1; omega) x.e).mono ?_
          rintro r w6 ⟨rfl, hr6, hk6⟩
          have pl6 := pl5.ring hr6 hk6
          clear hr6 hk6 pl5 x5
          go_wp2_with fail
          have hle := pl6.rg.le
          refine (many_ok pl6.rg).mono ?_
          rintro r w8 ⟨rfl, rfl⟩
          go_wp2_with fail
          refine (room_ok pl6.rg).mono ?_
          rintro r w8 ⟨rfl, rfl⟩
          go_wp2_with fail
          refine ⟨⟨j + 1, H, a, c, by omega, by omega, by go_num, rfl, hc, pl6⟩, by simp [intOf]; omega⟩
      · by_cases d1 : x.d = 1
        · cases H with
          | nil =>
            have keq := neqEn En.zero En.zero true (En.same_self _)
            go_wp2_with (first | refine load_range rfl 32 _ rfl x.vals hrr rfl Try.underlying32 rfl sizeAc ?_ | refine alloc_zero zeroAc rfl rfl ?_ | refine store_new rfl 32 _ _ rfl rfl rfl x.size rfl x.arr_one ?_)
            refine (rpeek0_nil a _ c).mono ?_
            rintro r w5 ⟨rfl, hb5⟩
            have pl5 := (pl.below hb5).alloc (.cells En.zero.arr 30)
            have n5 : w5.heap.size ∉ [R, G] := (pl.below hb5).ne (Nat.le_refl _)
            have y5 := blk_new w5 En.zero.arr 30
            clear hb5 pl x4 q0 q1 q8
            go_wp2_with (first | refine alloc_zero zeroEn rfl rfl ?_ | refine store_new rfl 30 _ _ rfl rfl rfl En.zero.size rfl En.zero.arr_one ?_)
            refine (pop_nil pl5.rg).mono ?_
            rintro r w6 ⟨rfl, hr6, hk6⟩
            have pl6 := (pl5.ring hr6 hk6).alloc (.cells En.zero.arr 30)
            have y6 := (y5.kp hk6 n5).alloc (.cells En.zero.arr 30)
            have z6 := blk_new w6 En.zero.arr 30
            clear hr6 hk6 pl5 y5 n5
            go_wp2_with (first | refine alloc_zero zeroEn rfl rfl ?_ | refine store_new rfl 30 _ _ rfl rfl rfl En.zero.size rfl En.zero.arr_one ?_ | refine load_blk rfl 30 _ rfl y6 rfl Try.underlying30 rfl En.zero.size ?_ | refine load_blk rfl 30 _ rfl z6 rfl Try.underlying30 rfl En.zero.size ?_)
            have hle := pl6.rg.le
            refine (many_ok pl6.rg).mono ?_
            rintro r w8 ⟨rfl, rfl⟩
            go_wp2_with fail
            refine (room_ok pl6.rg).mono ?_
            rintro r w8 ⟨rfl, rfl⟩
            go_wp2_with fail
            refine ⟨⟨j + 1, [], a, c, by omega, by omega, by go_num, rfl, hc, pl6⟩, by simp [intOf]; omega⟩
          | cons y M =>
            simp only [List.length_cons] at hc ⊢
            have keq := neqEn y y true (En.same_self _)
            go_wp2_with (first | refine load_range rfl 32 _ rfl x.vals hrr rfl Try.underlying32 rfl sizeAc ?_ | refine alloc_zero zeroAc rfl rfl ?_ | refine store_new rfl 32 _ _ rfl rfl rfl x.size rfl x.arr_one ?_)
            refine (rpeek0_cons pl.li c).mono ?_
            rintro r w5 ⟨rfl, hb5⟩
            have pl5 := (pl.below hb5).alloc (.cells y.arr 30)
            have n5 : w5.heap.size ∉ [R, G] := (pl.below hb5).ne (Nat.le_refl _)
            have y5 := blk_new w5 y.arr 30
            clear hb5 pl x4 q0 q1 q8
            go_wp2_with (first | refine alloc_zero zeroEn rfl rfl ?_ | refine store_new rfl 30 _ _ rfl rfl rfl y.size rfl y.arr_one ?_)
            refine (pop_cons pl5.rg).mono ?_
            rintro r w6 ⟨rfl, hr6, hk6⟩
            have pl6 := (pl5.ring hr6 hk6).alloc (.cells y.arr 30)
            have y6 := (y5.kp hk6 n5).alloc (.cells y.arr 30)
            have z6 := blk_new w6 y.arr 30
            clear hr6 hk6 pl5 y5 n5
            go_wp2_with (first | refine alloc_zero zeroEn rfl rfl ?_ | refine store_new rfl 30 _ _ rfl rfl rfl y.size rfl y.arr_one ?_ | refine load_blk rfl 30 _ rfl y6 rfl Try.underlying30 rfl y.size ?_ | refine load_blk rfl 30 _ rfl z6 rfl Try.underlying30 rfl y.size ?_ | (refine cut_first En.vals_length rfl _ _ rfl underL elemL sizeRun pl6.li (by simpa using hc) rfl rfl ?_; intro a2 hl2; have pl7 := pl6.list hl2; clear hl2 pl6))
            have hle := pl7.rg.le
            refine (many_ok pl7.rg).mono ?_
            rintro r w8 ⟨rfl, rfl⟩
            go_wp2_with fail
            refine (room_ok pl7.rg).mono ?_
            rintro r w8 ⟨rfl, rfl⟩
            go_wp2_with fail
            refine ⟨⟨j + 1, M, a2, (c - 1), by omega, by omega, by go_num, rfl, (by omega), pl7⟩, by simp [intOf]; omega⟩
        · by_cases d2 : x.d = 2
          · obtain ⟨e, he⟩ : ∃ e, Hid (peekE H x.i = e) := ⟨_, rfl⟩
            obtain ⟨t, ht⟩ : ∃ t, Hid (decide (0 ≤ x.i ∧ x.i < (H.length : Int)) = t) := ⟨_, rfl⟩
            have keq := neqEn e e true (En.same_self _)
            go_wp2_with (first | refine load_range rfl 32 _ rfl x.vals hrr rfl Try.underlying32 rfl sizeAc ?_ | refine alloc_zero zeroAc rfl rfl ?_ | refine store_new rfl 32 _ _ rfl rfl rfl x.size rfl x.arr_one ?_)
            refine (rpeek_as pl.li c x.i he ht).mono ?_
            rintro r w5 ⟨rfl, hb5⟩
            have pl5 := (pl.below hb5).alloc (.cells e.arr 30)
            have x5 := (x4.below hb5).alloc (.cells e.arr 30)
            have y5 := blk_new w5 e.arr 30
            obtain ⟨p0, p1, p8⟩ := ac_cells x5
            clear hb5 pl x4 q0 q1 q8
            go_wp2_with (first | refine alloc_zero zeroEn rfl rfl ?_ | refine store_new rfl 30 _ _ rfl rfl rfl e.size rfl e.arr_one ?_)
            refine (peek_as pl5.rg x.i he ht).mono ?_
            rintro r w6 ⟨rfl, hb6⟩
            have pl6 := (pl5.below hb6).alloc (.cells e.arr 30)
            have y6 := (y5.below hb6).alloc (.cells e.arr 30)
            have z6 := blk_new w6 e.arr 30
            clear hb6 pl5 y5 x5 p0 p1 p8
            go_wp2_with (first | refine alloc_zero zeroEn rfl rfl ?_ | refine store_new rfl 30 _ _ rfl rfl rfl e.size rfl e.arr_one ?_ | refine load_blk rfl 30 _ rfl y6 rfl Try.underlying30 rfl e.size ?_ | refine load_blk rfl 30 _ rfl z6 rfl Try.underlying30 rfl e.size ?_)
            have hle := pl6.rg.le
            refine (many_ok pl6.rg).mono ?_
            rintro r w8 ⟨rfl, rfl⟩
            go_wp2_with fail
            refine (room_ok pl6.rg).mono ?_
            rintro r w8 ⟨rfl, rfl⟩
            go_wp2_with fail
            refine ⟨⟨j + 1, H, a, c, by omega, by omega, by go_num, rfl, hc, pl6⟩, by simp [intOf]; omega⟩
          · by_cases d3 : x.d = 3
            · have hle3 := pl.rg.le
              go_wp2_with (first | refine load_range rfl 32 _ rfl x.vals hrr rfl Try.underlying32 rfl sizeAc ?_ | refine alloc_zero zeroAc rfl rfl ?_ | refine store_new rfl 32 _ _ rfl rfl rfl x.size rfl x.arr_one ?_)
              refine (rdrop_ok pl.li c (by omega) x.s).mono ?_
              rintro r w5 ⟨a2, c2, rfl, hl5, hb5, hc5⟩
              have pl5 := pl.fresh hb5 hl5
              have x5 := x4.below hb5
              obtain ⟨p0, p1, p8⟩ := ac_cells x5
              obtain ⟨K, hK⟩ : ∃ K, Hid (keepL H x.s = K) := ⟨_, rfl⟩
              have dr := drop_ok pl5.rg x.s
              have hkl := keep_le H x.s
              rw [hK.out] at pl5 hc5 dr hkl ⊢
              clear hl5 hb5 pl x4 q0 q1 q8
              go_wp2_with fail
              refine dr.mono ?_
              rintro r w6 ⟨rfl, hr6, hk6⟩
              have pl6 := pl5.ring hr6 hk6
              clear hr6 hk6 pl5 x5 p0 p1 p8 dr
              go_wp2_with fail
              have hle := pl6.rg.le
              refine (many_ok pl6.rg).mono ?_
              rintro r w8 ⟨rfl, rfl⟩
              go_wp2_with fail
              refine (room_ok pl6.rg).mono ?_
              rintro r w8 ⟨rfl, rfl⟩
              go_wp2_with fail
              refine ⟨⟨j + 1, K, a2, c2, by omega, by omega, by go_num, rfl, hc5, pl6⟩, by simp [intOf]; omega⟩
            · by_cases d4 : x.d = 4
              · go_wp2_with (first | refine load_range rfl 32 _ rfl x.vals hrr rfl Try.underlying32 rfl sizeAc ?_ | refine alloc_zero zeroAc rfl rfl ?_ | refine store_new rfl 32 _ _ rfl rfl rfl x.size rfl x.arr_one ?_)
                refine (clear_ok pl.rg).mono ?_
                rintro r w5 ⟨rfl, hr5, hk5⟩
                have pl5 : Pl R G room B [] none [] w w5 := (pl.ring hr5 hk5).list (Li.nil _ _ _)
                clear hr5 hk5 pl x4 q0 q1 q8
                go_wp2_with fail
                have hle := pl5.rg.le
                refine (many_ok pl5.rg).mono ?_
                rintro r w8 ⟨rfl, rfl⟩
                go_wp2_with fail
                refine (room_ok pl5.rg).mono ?_
                rintro r w8 ⟨rfl, rfl⟩
                go_wp2_with fail
                refine ⟨⟨j + 1, [], none, 0, by omega, by omega, by go_num, rfl, (Nat.le_refl 0), pl5⟩, by simp [intOf]; omega⟩
              · go_wp2_with (first | refine load_range rfl 32 _ rfl x.vals hrr rfl Try.underlying32 rfl sizeAc ?_ | refine alloc_zero zeroAc rfl rfl ?_ | refine store_new rfl 32 _ _ rfl rfl rfl x.size rfl x.arr_one ?_)
                have hle := pl.rg.le
                refine (many_ok pl.rg).mono ?_
                rintro r w8 ⟨rfl, rfl⟩
                go_wp2_with fail
                refine (room_ok pl.rg).mono ?_
                rintro r w8 ⟨rfl, rfl⟩
                go_wp2_with fail
                refine ⟨⟨j + 1, H, a, c, by omega, by omega, by go_num, rfl, hc, pl⟩, by simp [intOf]; omega⟩
    · clear hS HN
      by_cases hjn : j < n
      · have e64 : ¬ (j : Int) < 300 := by omega
        have e0 : (j : Int) < (n : Int) := by omega
        go_wp2_with fail
        go_ret
        exact ⟨rfl, pl.k.all⟩
      · have e0 : ¬ (j : Int) < (n : Int) := by omega
        go_wp2_with fail
        go_ret
        exact ⟨rfl, pl.k.all⟩
theorem walk (n : Int) (_wn : (Lit.int .i64 n).wf = true) (la : Option Addr) (L : List Ac) (lc : Nat) (lm : L.length ≤ maxLen) (w : World) (hS : Li Ac.vals 0 la L w) :
    Calls Try.prog 3 #[.int .i64 n, .slice la L.length lc] w fun e w' => e = .returned (.bool true) ∧ Below w.heap.size w w' := by
  by_cases hn : n < 0 ∨ 64 < n
  · exact walk_no n hn la _ lc w
  · obtain ⟨room, rfl⟩ : ∃ room : Nat, n = (room : Int) := ⟨n.toNat, by omega⟩
    exact walk_in room (by omega) la L lc lm w hS

set_option maxRecDepth 100000 in
theorem lifted (os : Os) (started : os.Started) (H : Type) (enc : TypeId × Value → H) :
    ReturnsInHanded {} Try.checked os 3 .any (Rows.ringPlaysSpec.pre6 enc Try.prog Try.f3 Rows.ringPlaysRow.domain false) (Rows.ringPlaysSpec.post enc Try.prog Try.f3 false true false false) := by
  refine returnsInHanded_of_change_sized (C := Try.checked) own started (by kernel_rfl) Try.func3
    (ChangeSpec.witness6 (enc := enc) (C := Try.checked) false ⟨#[], #[.int .i64 0, .slice none 0 0], []⟩ 8 (by kernel_rfl) (by kernel_rfl) (by kernel_rfl) (by kernel_rfl)) ?_
  intro W base args ds gs before hval0 hW hcnd hsz0 _
  have hval : ∀ (j : Nat) t v, Try.f3.params[j]? = some t → args[j]? = some v → Value.okWide Try.prog W .any base t v := hval0
  have hsz : (DataW.weightsEach Try.prog (Try.f3.params.toList ++ Rows.ringPlaysSpec.plain.varTypes Try.prog) (ds ++ gs)).all (· ≤ reachBytes) = true := hsz0
  have hW' := hW
  obtain ⟨p, q, hA0, hV, rfl, hfz, hnd⟩ := hW
  have hA : DataW.TrodAll enc Try.prog W 0 (fun _ => true) true Try.f3.params.toList args.toList ds p := hA0
  rw [Try.params3] at hA hval hsz

  obtain ⟨v0, vs0, d0, ds0, p0, q0, hargs, rfl, rfl, h0, r0⟩ := trodAll_cons hA
  obtain ⟨v1, vs1, d1, ds1, p1, q1, rfl, rfl, rfl, h1, r1⟩ := trodAll_cons r0
  obtain ⟨rfl, rfl, rfl⟩ := trodAll_nil r1
  obtain rfl : args = #[v0, v1] := by cases args; simp_all
  obtain ⟨rfl, rfl⟩ := trodVars_none hV
  obtain ⟨a0, rfl, rfl, rfl, w0⟩ := open_int Try.underlying3 (hval 0 3 v0 rfl rfl) h0
  obtain ⟨la1, L1, lc1, rfl, lm1, hS1⟩ := open_acts (okWide_slice Try.underlying22 (hval 1 22 v1 rfl rfl)) h1
  have hA2 := hA0
  clear hA0 hval0 hsz0
  simp only [List.append_nil] at hW'
  refine (walk a0 w0 la1 L1 lc1 lm1 W hS1).mono fun e W' ⟨he, bel⟩ => ?_
  subst he
  exact ⟨_, rfl, _, _, _, [], _, [], hW', trodAll_mk1 (shut_bool Try.underlying4 _), (stays_all laidOut bel (by kernel_rfl) hA2), rfl, bel.frame _, fun h => by cases h⟩

theorem over : Rows.ringPlaysRow.holds Try.pinned (OpenSpec.ofChange Rows.ringPlaysSpec) :=
  OpenClaim.holds_of_wide 3 Try.f3 rfl rfl rfl rfl rfl rfl rfl ⟨rfl, rfl, rfl, rfl, rfl⟩ rfl rfl rfl rfl rfl (by kernel_rfl) Try.func3 (by kernel_rfl)
    (of_decide_eq_true (by kernel_rfl)) (by unfold Func.isWrapper; first | (rw [if_pos (by decide +kernel)]; kernel_rfl) | (rw [if_neg (by decide +kernel)]; exact ⟨rfl, rfl⟩))
    (fun os started H enc _ => lifted os started H enc)

end Go.Proofs.Ytleecgoppplioaa.ringPlays
namespace Go.Proofs.Ytleecgoppplioaa

theorem ringPlays_holds : Rows.RingPlaysSaid := ringPlays.over
#print axioms ringPlays_holds

end Go.Proofs.Ytleecgoppplioaa
