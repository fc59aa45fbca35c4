/-
  Whatever is pushed when, what is popped is what was taken, in that order, each once; never is more held than there is room: the law RingOrders returns true for every input.
  No condition beyond the form's own.
-/
import Derived.Test.YtleecgoppplioaaRows
import Derived.Test.YtleecgoppplioaaRgV
import Derived.WalkKit
import Derived.ProofKit
import Derived.OpenShut
import Derived.ShutString
import Derived.SizedLaws
import Derived.ChangeOld
import Derived.Below
namespace Go.Proofs.Ytleecgoppplioaa.ringOrders
open Go.Sort Go.ChangeShapes Go.WideShapes Go.ChangeAt Go.RowKit
open Go.ChangeMaps (open_string shut_string)
set_option linter.unusedVariables false
set_option maxRecDepth 10000

theorem own : ownKnob Try.prog.godebug = none := by kernel_rfl
theorem length_bytes (s : ByteArray) : s.data.toList.length = s.size := by rw [Array.length_toList]; rfl

theorem pop_cell {R G gt ct gc cc room b o j : Nat} {M T C : List En} {pb : Bool} {w w1 : World} (h : Ord R G gt ct gc cc room M T C w w1) (hr : w.rangeAt b (o + j * 1) (boolV pb)) (hb : b < w.heap.size) : w1.cell? ⟨b, o + j, none⟩ = some (.bool pb) := by
  have := range_block hr (h.k.block b hb (by simp)) 0 _ rfl
  rw [Nat.mul_one, Nat.add_zero] at this
  exact this
theorem many_as {R G gt ct gc cc room : Nat} {M T C : List En} {w w1 : World} (h : Ord R G gt ct gc cc room M T C w w1) (hM : M.length = T.length - C.length) (hc : C.length ≤ T.length) : Calls Try.prog 17 #[.pointer (some ⟨R, 0, none⟩)] w1 fun r w' => r = .returned (.int .i64 ((T.length : Int) - (C.length : Int))) ∧ w' = w1 := by
  have h1 := many_ok h.rg
  rw [hM, show ((T.length - C.length : Nat) : Int) = (T.length : Int) - (C.length : Int) by omega] at h1
  exact h1
theorem many_room {R G gt ct gc cc room : Nat} {M T C : List En} {w w1 : World} (h : Ord R G gt ct gc cc room M T C w w1) (hM : M.length = T.length - C.length) : T.length - C.length ≤ room := by
  rw [← hM]
  exact h.rg.le.1

set_option maxHeartbeats 4000000 in
theorem walk_no (n : Int) (hn : n < 0 ∨ 64 < n) (la : Option Addr) (ll lc : Nat) (ma : Option Addr) (ml mc : Nat) (w : World) : Calls Try.prog 4 #[.int .i64 n, .slice la ll lc, .slice ma ml mc] w fun e w' => e = .returned (.bool true) ∧ Below w.heap.size w w' := by
  go_enter Try.func4, Try.ntmps4
  go_wp2_with fail
  refine (new_no n hn w).mono ?_
  rintro r w1 ⟨rfl, rfl⟩
  go_wp2_with fail
  refine (fixed_any _).mono ?_
  rintro r w2 ⟨rfl, hb2⟩
  go_wp2_with fail
  refine (fixed_any _).mono ?_
  rintro r w3 ⟨rfl, hb3⟩
  go_wp2_with fail
  go_ret
  exact ⟨rfl, hb2.trans (hb3.mono hb2.size)⟩

set_option maxHeartbeats 32000000 in
theorem walk_in (room : Nat) (hroom : room ≤ 64) (la : Option Addr) (L : List En) (lc : Nat) (lm : L.length ≤ maxLen) (pa : Option Addr) (P : List Bool) (pc : Nat) (pm : P.length ≤ maxLen) (w : World) (hS : Li En.vals 0 la L w) (hB : Li boolV 0 pa P w) :
    Calls Try.prog 4 #[.int .i64 (room : Int), .slice la L.length lc, .slice pa P.length pc] w fun e w' => e = .returned (.bool true) ∧ Below w.heap.size w w' := by
  obtain ⟨i, z, hi, hz, hs, hby, hzs⟩ := infoEn
  have Hm : Hid (maxLen = 9223372036854775807) := rfl
  have hm : L.length ≤ 9223372036854775807 := lm
  have hmm : P.length ≤ 9223372036854775807 := pm
  obtain ⟨n, hn⟩ : ∃ n, L.length = n := ⟨_, rfl⟩
  obtain ⟨np, hnp⟩ : ∃ n, P.length = n := ⟨_, rfl⟩
  rw [hn] at hm ⊢
  rw [hnp] at hmm ⊢
  have HN : Hid (L.length = n) := hn
  have HP : Hid (P.length = np) := hnp
  clear hn hnp lm pm
  go_enter Try.func4, Try.ntmps4
  go_wp2_with fail
  refine (new_ok room hroom w).mono ?_
  rintro r w1 ⟨R, G, rfl, hR, hG, hr1, hb1⟩
  go_wp2_with fail
  refine (fixed_any w1).mono ?_
  rintro r w3 ⟨rfl, hb⟩
  have hr3 := hr1.below hb
  have k3 : Kp [] w w3 := (Kp.of_below hb1).trans (Kp.of_below hb)
  have od : Ord R G w3.heap.size 0 (w3.heap.size + 1) 0 room [] [] [] w ((w3.alloc (.cells #[] 30)).alloc (.cells #[] 30)) := by
    have hl := hr3.lt
    have hk := k3.size
    have hz1 : (w3.alloc (.cells #[] 30)).heap.size = w3.heap.size + 1 := by simp
    have b2 := blk_new (w3.alloc (.cells #[] 30)) #[] 30
    rw [hz1] at b2
    exact ⟨(hr3.below (below_box _ _)).below (below_box _ _), Ow.empty ((blk_new w3 #[] 30).alloc _), Ow.empty b2, (k3.trans (Kp.alloc _ _ _)).trans (Kp.alloc _ _ _), by omega, by omega⟩
  clear hr1 hb1 hb hr3 k3 hR hG
  go_wp2_with fail
  go_loopw [9, 10, 11] (fun v9 v10 iv wr => ∃ (j : Nat) (T C : List En) (gt ct gc cc : Nat), j ≤ n ∧ j ≤ 300 ∧ iv = .int .i64 j ∧ v9 = .slice (some ⟨gt, 0, none⟩) T.length ct ∧ v10 = .slice (some ⟨gc, 0, none⟩) C.length cc ∧ T.length ≤ j ∧ Hid (C = T.take C.length) ∧ Ord R G gt ct gc cc room (T.drop C.length) T C w wr) (fun _ _ iv _ => 300 - (intOf iv).toNat)
  case atStart => exact ⟨0, [], [], _, _, _, _, by omega, by omega, rfl, rfl, rfl, by simp, rfl, od⟩
  case round =>
    clear od hm hmm
    obtain ⟨j, T, C, gt, ct, gc, cc, hj, hj64, rfl, rfl, rfl, htj, hpre, od⟩ := hrel
    by_cases hjl : j < n ∧ j < 300
    · obtain ⟨h1, h2⟩ := hjl
      have j0 : (j : Int) < (n : Int) := by omega
      have j1 : (0 : Int) ≤ (j : Int) := by omega
      have j2 : (j : Int) < 300 := by omega
      obtain ⟨x, hx⟩ : ∃ x, L[j]? = some x := ⟨_, List.getElem?_eq_getElem (by rw [HN.out]; exact h1)⟩
      obtain ⟨b, o, rfl, _, hbl, hr⟩ := hS.at En.vals_length j x hx
      have hrr := range_block hr (od.k.block b hbl (by simp))
      have cl := pre_le hpre.out
      have dl : (T.drop C.length).length = T.length - C.length := List.length_drop
      have DL : Hid ((T.drop C.length).length = T.length - C.length) := dl
      clear hx dl
      by_cases hp : j < np
      · have hp0 : (j : Int) < (np : Int) := by omega
        obtain ⟨pb, hpb⟩ : ∃ pb, P[j]? = some pb := ⟨_, List.getElem?_eq_getElem (by rw [HP.out]; exact hp)⟩
        obtain ⟨b', o', rfl, _, hbl', hr'⟩ := hB.at (k := 1) (fun _ => rfl) j pb hpb
        clear hpb
        cases pb
        · by_cases hf : T.length - C.length < room
          · have hfI : (T.length : Int) - (C.length : Int) < (room : Int) := by omega
            go_wp2_with (refine load_range rfl 30 _ rfl x.vals hrr rfl Try.underlying30 rfl sizeEn ?_)
            refine (push_in od.rg (by rw [DL.out]; exact hf) x).mono ?_
            rintro r w4 ⟨rfl, hr4, hk4⟩
            have od4 := (od.ring hr4 hk4).alloc (.cells x.arr 30)
            have hrr4 := range_block hr ((od.ring hr4 hk4).k.block b hbl (by simp))
            rw [← pre_drop x hpre.out] at od4
            have HP2 : Hid (C = (T ++ [x]).take C.length) := pre_take x hpre.out
            have src4 := boxSrc w4 x
            clear od hr4 hk4 hrr hpre DL
            go_wp2_with (first
              | refine load_range rfl 30 _ rfl x.vals hrr4 rfl Try.underlying30 rfl sizeEn ?_
              | refine box_en rfl _ rfl x rfl ?_
              | (at_builtin; refine append_ow (M := [x]) En.vals_length rfl _ _ rfl Try.underlying27 hi hz hs hby hzs od4.ot rfl src4 rfl (by simp; omega) (by rw [Hm.out]; simp; omega) ?_; intro g2 c2 w2 ow2 k2 hg2; have od5 := od4.tk ow2 k2 hg2; clear od4 src4 ow2 k2 hg2 hrr4; obtain ⟨T2, hT2⟩ : ∃ T2, Hid (T ++ [x] = T2) := ⟨_, rfl⟩; rw [hT2.out] at od5 HP2 ⊢; have tl : T2.length = T.length + 1 := (by rw [← hT2.out]; simp); have tl2 : T2.length ≤ j + 1 := (by omega); clear tl; have cb := pop_cell od5 hr' hbl'))
            have me := many_as od5 (by rw [List.length_drop]) (pre_le HP2.out)
            have mr := many_room od5 (by rw [List.length_drop])
            have ml := pre_le HP2.out
            have mn : ¬ (room : Int) < (T2.length : Int) - (C.length : Int) := by omega
            go_wp2_with fail
            refine me.mono ?_
            rintro r w8 ⟨rfl, rfl⟩
            go_wp2_with fail
            refine me.mono ?_
            rintro r w8 ⟨rfl, rfl⟩
            go_wp2_with fail
            refine ⟨⟨j + 1, T2, C, g2, c2, gc, cc, by omega, by omega, by go_num, rfl, rfl, by omega, HP2, od5⟩, by simp [intOf]; omega⟩
          · have hfI : ¬ (T.length : Int) - (C.length : Int) < (room : Int) := by omega
            go_wp2_with (refine load_range rfl 30 _ rfl x.vals hrr rfl Try.underlying30 rfl sizeEn ?_)
            refine (push_no od.rg (by rw [DL.out]; have := od.rg.le.1; rw [DL.out] at this; omega) x).mono ?_
            rintro r w4 ⟨rfl, hr4, hk4⟩
            have od4 := od.ring hr4 hk4
            clear od hr4 hk4 hrr DL
            have cb := pop_cell od4 hr' hbl'
            go_wp2_with fail
            have me := many_as od4 (by rw [List.length_drop]) (pre_le hpre.out)
            have mr := many_room od4 (by rw [List.length_drop])
            have ml := pre_le hpre.out
            have mn : ¬ (room : Int) < (T.length : Int) - (C.length : Int) := by omega
            go_wp2_with fail
            refine me.mono ?_
            rintro r w8 ⟨rfl, rfl⟩
            go_wp2_with fail
            refine me.mono ?_
            rintro r w8 ⟨rfl, rfl⟩
            go_wp2_with fail
            refine ⟨⟨j + 1, T, C, gt, ct, gc, cc, by omega, by omega, by go_num, rfl, rfl, by omega, hpre, od4⟩, by simp [intOf]; omega⟩
        · by_cases hf : T.length - C.length < room
          · have hfI : (T.length : Int) - (C.length : Int) < (room : Int) := by omega
            go_wp2_with (refine load_range rfl 30 _ rfl x.vals hrr rfl Try.underlying30 rfl sizeEn ?_)
            refine (push_in od.rg (by rw [DL.out]; exact hf) x).mono ?_
            rintro r w4 ⟨rfl, hr4, hk4⟩
            have od4 := (od.ring hr4 hk4).alloc (.cells x.arr 30)
            have hrr4 := range_block hr ((od.ring hr4 hk4).k.block b hbl (by simp))
            rw [← pre_drop x hpre.out] at od4
            have HP2 : Hid (C = (T ++ [x]).take C.length) := pre_take x hpre.out
            have src4 := boxSrc w4 x
            clear od hr4 hk4 hrr hpre DL
            go_wp2_with (first
              | refine load_range rfl 30 _ rfl x.vals hrr4 rfl Try.underlying30 rfl sizeEn ?_
              | refine box_en rfl _ rfl x rfl ?_
              | (at_builtin; refine append_ow (M := [x]) En.vals_length rfl _ _ rfl Try.underlying27 hi hz hs hby hzs od4.ot rfl src4 rfl (by simp; omega) (by rw [Hm.out]; simp; omega) ?_; intro g2 c2 w2 ow2 k2 hg2; have od5 := od4.tk ow2 k2 hg2; clear od4 src4 ow2 k2 hg2 hrr4; obtain ⟨T2, hT2⟩ : ∃ T2, Hid (T ++ [x] = T2) := ⟨_, rfl⟩; rw [hT2.out] at od5 HP2 ⊢; have tl : T2.length = T.length + 1 := (by rw [← hT2.out]; simp); have tl2 : T2.length ≤ j + 1 := (by omega); clear tl; have cb := pop_cell od5 hr' hbl'))
            cases hM : T2.drop C.length with
            | nil =>
              have hlt : ¬ (C.length : Int) < (T2.length : Int) := by have := List.drop_eq_nil_iff.1 hM; omega
              have odx := od5
              rw [hM] at odx
              refine (pop_nil odx.rg).mono ?_
              rintro r w6 ⟨rfl, hr6, hk6⟩
              have od6 := (odx.ring hr6 hk6).alloc (.cells En.zero.arr 30)
              rw [← hM] at od6
              clear hr6 hk6 od5 odx hM cb
              go_wp2_with (first | refine alloc_zero zeroEn rfl rfl ?_ | refine store_new rfl 30 _ _ rfl rfl rfl En.zero.size rfl En.zero.arr_one ?_)
              have me := many_as od6 (by rw [List.length_drop]) (pre_le HP2.out)
              have mr := many_room od6 (by rw [List.length_drop])
              have ml := pre_le HP2.out
              have mn : ¬ (room : Int) < (T2.length : Int) - (C.length : Int) := by omega
              go_wp2_with fail
              refine me.mono ?_
              rintro r w8 ⟨rfl, rfl⟩
              go_wp2_with fail
              refine me.mono ?_
              rintro r w8 ⟨rfl, rfl⟩
              go_wp2_with fail
              refine ⟨⟨j + 1, T2, C, g2, c2, gc, cc, by omega, by omega, by go_num, rfl, rfl, by omega, HP2, od6⟩, by simp [intOf]; omega⟩
            | cons y M' =>
              have hlt : (C.length : Int) < (T2.length : Int) := by
                have := congrArg List.length hM
                rw [List.length_drop, List.length_cons] at this
                omega
              have odx := od5
              rw [hM] at odx
              obtain ⟨hpre3, hM3⟩ := pre_pop HP2.out hM
              refine (pop_cons odx.rg).mono ?_
              rintro r w6 ⟨rfl, hr6, hk6⟩
              have od6 := ((odx.ring hr6 hk6).alloc (.cells y.arr 30)).alloc (.cells y.arr 30)
              have x6 := blk_new w6 y.arr 30
              have src6 := boxSrc (w6.alloc (.cells y.arr 30)) y
              have HP3 : Hid (C ++ [y] = T2.take (C ++ [y]).length) := hpre3
              have HM3 : Hid (M' = T2.drop (C ++ [y]).length) := hM3
              have cl3 := pre_le HP2.out
              clear hr6 hk6 od5 odx hM cb hpre3 hM3
              go_wp2_with (first
                | refine alloc_zero zeroEn rfl rfl ?_
                | refine store_new rfl 30 _ _ rfl rfl rfl y.size rfl y.arr_one ?_
                | refine load_blk rfl 30 _ rfl x6 rfl Try.underlying30 rfl y.size ?_
                | refine box_en rfl _ rfl y rfl ?_
                | (at_builtin; refine append_ow (M := [y]) En.vals_length rfl _ _ rfl Try.underlying27 hi hz hs hby hzs od6.oc rfl src6 rfl (by simp; omega) (by rw [Hm.out]; simp; omega) ?_; intro g3 c3 w3 ow3 k3 hg3; have od7 := od6.cm ow3 k3 hg3; clear od6 src6 ow3 k3 hg3 x6; obtain ⟨C2, hC2⟩ : ∃ C2, Hid (C ++ [y] = C2) := ⟨_, rfl⟩; rw [hC2.out] at od7 HP3 HM3 ⊢; rw [HM3.out] at od7))
              have me := many_as od7 (by rw [List.length_drop]) (pre_le HP3.out)
              have mr := many_room od7 (by rw [List.length_drop])
              have ml := pre_le HP3.out
              have mn : ¬ (room : Int) < (T2.length : Int) - (C2.length : Int) := by omega
              go_wp2_with fail
              refine me.mono ?_
              rintro r w8 ⟨rfl, rfl⟩
              go_wp2_with fail
              refine me.mono ?_
              rintro r w8 ⟨rfl, rfl⟩
              go_wp2_with fail
              refine ⟨⟨j + 1, T2, C2, g2, c2, g3, c3, by omega, by omega, by go_num, rfl, rfl, by omega, HP3, od7⟩, by simp [intOf]; omega⟩
          · have hfI : ¬ (T.length : Int) - (C.length : Int) < (room : Int) := by omega
            go_wp2_with (refine load_range rfl 30 _ rfl x.vals hrr rfl Try.underlying30 rfl sizeEn ?_)
            refine (push_no od.rg (by rw [DL.out]; have := od.rg.le.1; rw [DL.out] at this; omega) x).mono ?_
            rintro r w4 ⟨rfl, hr4, hk4⟩
            have od4 := od.ring hr4 hk4
            clear od hr4 hk4 hrr DL
            have cb := pop_cell od4 hr' hbl'
            go_wp2_with fail
            cases hM : T.drop C.length with
            | nil =>
              have hlt : ¬ (C.length : Int) < (T.length : Int) := by have := List.drop_eq_nil_iff.1 hM; omega
              have odx := od4
              rw [hM] at odx
              refine (pop_nil odx.rg).mono ?_
              rintro r w6 ⟨rfl, hr6, hk6⟩
              have od6 := (odx.ring hr6 hk6).alloc (.cells En.zero.arr 30)
              rw [← hM] at od6
              clear hr6 hk6 od4 odx hM cb
              go_wp2_with (first | refine alloc_zero zeroEn rfl rfl ?_ | refine store_new rfl 30 _ _ rfl rfl rfl En.zero.size rfl En.zero.arr_one ?_)
              have me := many_as od6 (by rw [List.length_drop]) (pre_le hpre.out)
              have mr := many_room od6 (by rw [List.length_drop])
              have ml := pre_le hpre.out
              have mn : ¬ (room : Int) < (T.length : Int) - (C.length : Int) := by omega
              go_wp2_with fail
              refine me.mono ?_
              rintro r w8 ⟨rfl, rfl⟩
              go_wp2_with fail
              refine me.mono ?_
              rintro r w8 ⟨rfl, rfl⟩
              go_wp2_with fail
              refine ⟨⟨j + 1, T, C, gt, ct, gc, cc, by omega, by omega, by go_num, rfl, rfl, by omega, hpre, od6⟩, by simp [intOf]; omega⟩
            | cons y M' =>
              have hlt : (C.length : Int) < (T.length : Int) := by
                have := congrArg List.length hM
                rw [List.length_drop, List.length_cons] at this
                omega
              have odx := od4
              rw [hM] at odx
              obtain ⟨hpre3, hM3⟩ := pre_pop hpre.out hM
              refine (pop_cons odx.rg).mono ?_
              rintro r w6 ⟨rfl, hr6, hk6⟩
              have od6 := ((odx.ring hr6 hk6).alloc (.cells y.arr 30)).alloc (.cells y.arr 30)
              have x6 := blk_new w6 y.arr 30
              have src6 := boxSrc (w6.alloc (.cells y.arr 30)) y
              have HP3 : Hid (C ++ [y] = T.take (C ++ [y]).length) := hpre3
              have HM3 : Hid (M' = T.drop (C ++ [y]).length) := hM3
              have cl3 := pre_le hpre.out
              clear hr6 hk6 od4 odx hM cb hpre3 hM3
              go_wp2_with (first
                | refine alloc_zero zeroEn rfl rfl ?_
                | refine store_new rfl 30 _ _ rfl rfl rfl y.size rfl y.arr_one ?_
                | refine load_blk rfl 30 _ rfl x6 rfl Try.underlying30 rfl y.size ?_
                | refine box_en rfl _ rfl y rfl ?_
                | (at_builtin; refine append_ow (M := [y]) En.vals_length rfl _ _ rfl Try.underlying27 hi hz hs hby hzs od6.oc rfl src6 rfl (by simp; omega) (by rw [Hm.out]; simp; omega) ?_; intro g3 c3 w3 ow3 k3 hg3; have od7 := od6.cm ow3 k3 hg3; clear od6 src6 ow3 k3 hg3 x6; obtain ⟨C2, hC2⟩ : ∃ C2, Hid (C ++ [y] = C2) := ⟨_, rfl⟩; rw [hC2.out] at od7 HP3 HM3 ⊢; rw [HM3.out] at od7))
              have me := many_as od7 (by rw [List.length_drop]) (pre_le HP3.out)
              have mr := many_room od7 (by rw [List.length_drop])
              have ml := pre_le HP3.out
              have mn : ¬ (room : Int) < (T.length : Int) - (C2.length : Int) := by omega
              go_wp2_with fail
              refine me.mono ?_
              rintro r w8 ⟨rfl, rfl⟩
              go_wp2_with fail
              refine me.mono ?_
              rintro r w8 ⟨rfl, rfl⟩
              go_wp2_with fail
              refine ⟨⟨j + 1, T, C2, gt, ct, g3, c3, by omega, by omega, by go_num, rfl, rfl, by omega, HP3, od7⟩, by simp [intOf]; omega⟩
      · have hp0 : ¬ (j : Int) < (np : Int) := by omega
        by_cases hf : T.length - C.length < room
        · have hfI : (T.length : Int) - (C.length : Int) < (room : Int) := by omega
          go_wp2_with (refine load_range rfl 30 _ rfl x.vals hrr rfl Try.underlying30 rfl sizeEn ?_)
          refine (push_in od.rg (by rw [DL.out]; exact hf) x).mono ?_
          rintro r w4 ⟨rfl, hr4, hk4⟩
          have od4 := (od.ring hr4 hk4).alloc (.cells x.arr 30)
          have hrr4 := range_block hr ((od.ring hr4 hk4).k.block b hbl (by simp))
          rw [← pre_drop x hpre.out] at od4
          have HP2 : Hid (C = (T ++ [x]).take C.length) := pre_take x hpre.out
          have src4 := boxSrc w4 x
          clear od hr4 hk4 hrr hpre DL
          go_wp2_with (first
            | refine load_range rfl 30 _ rfl x.vals hrr4 rfl Try.underlying30 rfl sizeEn ?_
            | refine box_en rfl _ rfl x rfl ?_
            | (at_builtin; refine append_ow (M := [x]) En.vals_length rfl _ _ rfl Try.underlying27 hi hz hs hby hzs od4.ot rfl src4 rfl (by simp; omega) (by rw [Hm.out]; simp; omega) ?_; intro g2 c2 w2 ow2 k2 hg2; have od5 := od4.tk ow2 k2 hg2; clear od4 src4 ow2 k2 hg2 hrr4; obtain ⟨T2, hT2⟩ : ∃ T2, Hid (T ++ [x] = T2) := ⟨_, rfl⟩; rw [hT2.out] at od5 HP2 ⊢; have tl : T2.length = T.length + 1 := (by rw [← hT2.out]; simp); have tl2 : T2.length ≤ j + 1 := (by omega); clear tl))
          have me := many_as od5 (by rw [List.length_drop]) (pre_le HP2.out)
          have mr := many_room od5 (by rw [List.length_drop])
          have ml := pre_le HP2.out
          have mn : ¬ (room : Int) < (T2.length : Int) - (C.length : Int) := by omega
          go_wp2_with fail
          refine me.mono ?_
          rintro r w8 ⟨rfl, rfl⟩
          go_wp2_with fail
          refine me.mono ?_
          rintro r w8 ⟨rfl, rfl⟩
          go_wp2_with fail
          refine ⟨⟨j + 1, T2, C, g2, c2, gc, cc, by omega, by omega, by go_num, rfl, rfl, by omega, HP2, od5⟩, by simp [intOf]; omega⟩
        · have hfI : ¬ (T.length : Int) - (C.length : Int) < (room : Int) := by omega
          go_wp2_with (refine load_range rfl 30 _ rfl x.vals hrr rfl Try.underlying30 rfl sizeEn ?_)
          refine (push_no od.rg (by rw [DL.out]; have := od.rg.le.1; rw [DL.out] at this; omega) x).mono ?_
          rintro r w4 ⟨rfl, hr4, hk4⟩
          have od4 := od.ring hr4 hk4
          clear od hr4 hk4 hrr DL
          go_wp2_with fail
          have me := many_as od4 (by rw [List.length_drop]) (pre_le hpre.out)
          have mr := many_room od4 (by rw [List.length_drop])
          have ml := pre_le hpre.out
          have mn : ¬ (room : Int) < (T.length : Int) - (C.length : Int) := by omega
          go_wp2_with fail
          refine me.mono ?_
          rintro r w8 ⟨rfl, rfl⟩
          go_wp2_with fail
          refine me.mono ?_
          rintro r w8 ⟨rfl, rfl⟩
          go_wp2_with fail
          refine ⟨⟨j + 1, T, C, gt, ct, gc, cc, by omega, by omega, by go_num, rfl, rfl, by omega, hpre, od4⟩, by simp [intOf]; omega⟩
    · clear hS hB HN HP
      by_cases hjn : j < n
      · have e64 : ¬ (j : Int) < 300 := by omega
        have e0 : (j : Int) < (n : Int) := by omega
        clear hjl
        have cl := pre_le hpre.out
        go_wp2_with fail
        go_loopw [14] (fun iv wr => ∃ q : Nat, q ≤ C.length ∧ iv = .int .i64 q ∧ Ord R G gt ct gc cc room (T.drop C.length) T C w wr) (fun iv _ => C.length - (intOf iv).toNat)
        case atStart => exact ⟨0, by omega, rfl, od⟩
        case round =>
          clear od
          obtain ⟨q, hq, rfl, od⟩ := hrel
          by_cases hql : q < C.length
          · have q0 : (q : Int) < (C.length : Int) := by omega
            have q1 : (0 : Int) ≤ (q : Int) := by omega
            have q2 : (q : Int) < (T.length : Int) := by omega
            obtain ⟨x, hx⟩ : ∃ x, C[q]? = some x := ⟨_, List.getElem?_eq_getElem hql⟩
            have hx2 := pre_at hpre.out q x hx
            have hrC : wr.rangeAt gc (0 + q * 6) x.vals := by
              obtain ⟨b, o, e, _, _, h⟩ := (od.oc.li (Nat.zero_le _)).at En.vals_length q x hx
              cases e
              exact h
            have hrT : wr.rangeAt gt (0 + q * 6) x.vals := by
              obtain ⟨b, o, e, _, _, h⟩ := (od.ot.li (Nat.zero_le _)).at En.vals_length q x hx2
              cases e
              exact h
            rw [Nat.zero_add] at hrC hrT
            have fC : ∀ w', (∃ p : Regrown, w' = grow (redrawn wr p.d) p.os) → w'.rangeAt gc (q * 6) x.vals := by
              rintro w' ⟨p, rfl⟩
              exact range_block hrC ((below_regrown wr p.d p.os).block gc od.oc.lt)
            have fT : ∀ w', (∃ p : Regrown, w' = grow (redrawn wr p.d) p.os) → w'.rangeAt gt (q * 6) x.vals := by
              rintro w' ⟨p, rfl⟩
              exact range_block hrT ((below_regrown wr p.d p.os).block gt od.ot.lt)
            have keq := neqEn x x true (En.same_self _)
            clear hx hx2 hrC hrT
            go_wp2_with fail
            refine wp_region_quiet_below (by kernel_rfl) (by kernel_rfl) ?_
            repeat (first
              | (go_big_quiet_want; refine quiet_range (cs := x.arr.toList) rfl rfl fC Try.underlying30 rfl sizeEn ?_; simp only [Act.put, List.setIfInBounds_toArray, List.set_cons_zero, List.set_cons_succ]; go_big_quiet_on)
              | (go_big_quiet_want; refine quiet_range (cs := x.arr.toList) rfl rfl fT Try.underlying30 rfl sizeEn ?_; simp only [Act.put, List.setIfInBounds_toArray, List.set_cons_zero, List.set_cons_succ]; go_big_quiet_on)
              | go_big_quiet_step (fail))
            refine wpQuiet_nil ?_
            intro _ hw'
            obtain ⟨⟨dq, osq⟩, hw''⟩ := hw'
            subst hw''
            have od2 := od.below (below_regrown wr dq osq)
            clear od fC fT
            go_wp2_with fail
            refine ⟨⟨q + 1, by omega, by go_num, od2⟩, by simp [intOf]; omega⟩
          · obtain rfl : q = C.length := by omega
            go_wp2_with fail
            go_ret
            exact ⟨rfl, od.k.all⟩
      · have e0 : ¬ (j : Int) < (n : Int) := by omega
        clear hjl
        have cl := pre_le hpre.out
        go_wp2_with fail
        go_loopw [14] (fun iv wr => ∃ q : Nat, q ≤ C.length ∧ iv = .int .i64 q ∧ Ord R G gt ct gc cc room (T.drop C.length) T C w wr) (fun iv _ => C.length - (intOf iv).toNat)
        case atStart => exact ⟨0, by omega, rfl, od⟩
        case round =>
          clear od
          obtain ⟨q, hq, rfl, od⟩ := hrel
          by_cases hql : q < C.length
          · have q0 : (q : Int) < (C.length : Int) := by omega
            have q1 : (0 : Int) ≤ (q : Int) := by omega
            have q2 : (q : Int) < (T.length : Int) := by omega
            obtain ⟨x, hx⟩ : ∃ x, C[q]? = some x := ⟨_, List.getElem?_eq_getElem hql⟩
            have hx2 := pre_at hpre.out q x hx
            have hrC : wr.rangeAt gc (0 + q * 6) x.vals := by
              obtain ⟨b, o, e, _, _, h⟩ := (od.oc.li (Nat.zero_le _)).at En.vals_length q x hx
              cases e
              exact h
            have hrT : wr.rangeAt gt (0 + q * 6) x.vals := by
              obtain ⟨b, o, e, _, _, h⟩ := (od.ot.li (Nat.zero_le _)).at En.vals_length q x hx2
              cases e
              exact h
            rw [Nat.zero_add] at hrC hrT
            have fC : ∀ w', (∃ p : Regrown, w' = grow (redrawn wr p.d) p.os) → w'.rangeAt gc (q * 6) x.vals := by
              rintro w' ⟨p, rfl⟩
              exact range_block hrC ((below_regrown wr p.d p.os).block gc od.oc.lt)
            have fT : ∀ w', (∃ p : Regrown, w' = grow (redrawn wr p.d) p.os) → w'.rangeAt gt (q * 6) x.vals := by
              rintro w' ⟨p, rfl⟩
              exact range_block hrT ((below_regrown wr p.d p.os).block gt od.ot.lt)
            have keq := neqEn x x true (En.same_self _)
            clear hx hx2 hrC hrT
            go_wp2_with fail
            refine wp_region_quiet_below (by kernel_rfl) (by kernel_rfl) ?_
            repeat (first
              | (go_big_quiet_want; refine quiet_range (cs := x.arr.toList) rfl rfl fC Try.underlying30 rfl sizeEn ?_; simp only [Act.put, List.setIfInBounds_toArray, List.set_cons_zero, List.set_cons_succ]; go_big_quiet_on)
              | (go_big_quiet_want; refine quiet_range (cs := x.arr.toList) rfl rfl fT Try.underlying30 rfl sizeEn ?_; simp only [Act.put, List.setIfInBounds_toArray, List.set_cons_zero, List.set_cons_succ]; go_big_quiet_on)
              | go_big_quiet_step (fail))
            refine wpQuiet_nil ?_
            intro _ hw'
            obtain ⟨⟨dq, osq⟩, hw''⟩ := hw'
            subst hw''
            have od2 := od.below (below_regrown wr dq osq)
            clear od fC fT
            go_wp2_with fail
            refine ⟨⟨q + 1, by omega, by go_num, od2⟩, by simp [intOf]; omega⟩
          · obtain rfl : q = C.length := by omega
            go_wp2_with fail
            go_ret
            exact ⟨rfl, od.k.all⟩
theorem walk (n : Int) (_wn : (Lit.int .i64 n).wf = true) (la : Option Addr) (L : List En) (lc : Nat) (lm : L.length ≤ maxLen) (ma : Option Addr) (M : List Bool) (mc : Nat) (mm : M.length ≤ maxLen) (w : World) (hS : Li En.vals 0 la L w) (hT : Li boolV 0 ma M w) :
    Calls Try.prog 4 #[.int .i64 n, .slice la L.length lc, .slice ma M.length mc] w fun e w' => e = .returned (.bool true) ∧ Below w.heap.size w w' := by
  by_cases hn : n < 0 ∨ 64 < n
  · exact walk_no n hn la _ lc ma _ mc w
  · obtain ⟨room, rfl⟩ : ∃ room : Nat, n = (room : Int) := ⟨n.toNat, by omega⟩
    exact walk_in room (by omega) la L lc lm ma M mc mm w hS hT

set_option maxRecDepth 100000 in
theorem lifted (os : Os) (started : os.Started) (H : Type) (enc : TypeId × Value → H) :
    ReturnsInHanded {} Try.checked os 4 .any (Rows.ringOrdersSpec.pre6 enc Try.prog Try.f4 Rows.ringOrdersRow.domain false) (Rows.ringOrdersSpec.post enc Try.prog Try.f4 false true false false) := by
  refine returnsInHanded_of_change_sized (C := Try.checked) own started (by kernel_rfl) Try.func4
    (ChangeSpec.witness6 (enc := enc) (C := Try.checked) false ⟨#[], #[.int .i64 0, .slice none 0 0, .slice none 0 0], []⟩ 8 (by kernel_rfl) (by kernel_rfl) (by kernel_rfl) (by kernel_rfl)) ?_
  intro W base args ds gs before hval0 hW hcnd hsz0 _
  have hval : ∀ (j : Nat) t v, Try.f4.params[j]? = some t → args[j]? = some v → Value.okWide Try.prog W .any base t v := hval0
  have hsz : (DataW.weightsEach Try.prog (Try.f4.params.toList ++ Rows.ringOrdersSpec.plain.varTypes Try.prog) (ds ++ gs)).all (· ≤ reachBytes) = true := hsz0
  have hW' := hW
  obtain ⟨p, q, hA0, hV, rfl, hfz, hnd⟩ := hW
  have hA : DataW.TrodAll enc Try.prog W 0 (fun _ => true) true Try.f4.params.toList args.toList ds p := hA0
  rw [Try.params4] at hA hval hsz

  obtain ⟨v0, vs0, d0, ds0, p0, q0, hargs, rfl, rfl, h0, r0⟩ := trodAll_cons hA
  obtain ⟨v1, vs1, d1, ds1, p1, q1, rfl, rfl, rfl, h1, r1⟩ := trodAll_cons r0
  obtain ⟨v2, vs2, d2, ds2, p2, q2, rfl, rfl, rfl, h2, r2⟩ := trodAll_cons r1
  obtain ⟨rfl, rfl, rfl⟩ := trodAll_nil r2
  obtain rfl : args = #[v0, v1, v2] := by cases args; simp_all
  obtain ⟨rfl, rfl⟩ := trodVars_none hV
  obtain ⟨a0, rfl, rfl, rfl, w0⟩ := open_int Try.underlying3 (hval 0 3 v0 rfl rfl) h0
  obtain ⟨la1, L1, lc1, rfl, lm1, hS1⟩ := open_ens (okWide_slice Try.underlying27 (hval 1 27 v1 rfl rfl)) h1
  obtain ⟨la2, L2, lc2, rfl, lm2, hS2⟩ := open_bools (okWide_slice Try.underlying44 (hval 2 44 v2 rfl rfl)) h2
  have hA2 := hA0
  clear hA0 hval0 hsz0
  simp only [List.append_nil] at hW'
  refine (walk a0 w0 la1 L1 lc1 lm1 la2 L2 lc2 lm2 W hS1 hS2).mono fun e W' ⟨he, bel⟩ => ?_
  subst he
  exact ⟨_, rfl, _, _, _, [], _, [], hW', trodAll_mk1 (shut_bool Try.underlying4 _), (stays_all laidOut bel (by kernel_rfl) hA2), rfl, bel.frame _, fun h => by cases h⟩

theorem over : Rows.ringOrdersRow.holds Try.pinned (OpenSpec.ofChange Rows.ringOrdersSpec) :=
  OpenClaim.holds_of_wide 4 Try.f4 rfl rfl rfl rfl rfl rfl rfl ⟨rfl, rfl, rfl, rfl, rfl⟩ rfl rfl rfl rfl rfl (by kernel_rfl) Try.func4 (by kernel_rfl)
    (of_decide_eq_true (by kernel_rfl)) (by unfold Func.isWrapper; first | (rw [if_pos (by decide +kernel)]; kernel_rfl) | (rw [if_neg (by decide +kernel)]; exact ⟨rfl, rfl⟩))
    (fun os started H enc _ => lifted os started H enc)

end Go.Proofs.Ytleecgoppplioaa.ringOrders
namespace Go.Proofs.Ytleecgoppplioaa

theorem ringOrders_holds : Rows.RingOrdersSaid := ringOrders.over
#print axioms ringOrders_holds

end Go.Proofs.Ytleecgoppplioaa
