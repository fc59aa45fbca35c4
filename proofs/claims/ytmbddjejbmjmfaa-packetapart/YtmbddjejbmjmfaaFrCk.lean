/-
  Whether a frame's entries may be: what Check returns, the code's and the document's.
  No condition.
-/
import Derived.Test.YtmbddjejbmjmfaaFrWk
namespace Go.Proofs.Ytmbddjejbmjmfaa
set_option maxRecDepth 10000
open Go.RowKit Go.Sort

theorem enCheck (e : En) (w : World) : Calls Try.prog 72 #[.agg e.vals.toArray] w fun r w' =>
    r = .returned (.int .i64 (if e.may then 0 else 30)) ∧ Below w.heap.size w w' := check_any e.k e.sv e.g e.se e.n e.t w
theorem enMay (e : En) (w : World) : Calls Try.prog 48 #[.agg e.vals.toArray] w fun r w' =>
    r = .returned (.bool e.may) ∧ Below w.heap.size w w' := rmay_any e.k e.sv e.g e.se e.n e.t w

set_option maxHeartbeats 2000000 in
theorem frCheck (F : Nat → En) (w : World) : Calls Try.prog 62 #[.agg (frc F)] w fun r w' =>
    r = .returned (.int .i64 (if Fr.may F then 0 else 30)) ∧ Below w.heap.size w w' := by
  obtain ⟨c, hc⟩ : ∃ c : Int, Hid ((if Fr.may F then 0 else 30) = c) := ⟨_, rfl⟩
  rw [hc.out]
  go_enter Try.func62, Try.ntmps62
  go_wp2_with (refine load_blk rfl 33 _ rfl (blk_new w (frc F) 33) rfl Try.underlying33 rfl (by rw [frc_size]; exact size27) ?_)
  go_loopw [9] (fun i w' => ∃ m : Nat, m ≤ 3 ∧ i = .int .i64 m ∧ Below w.heap.size w w' ∧ Hid (∀ x, x < 2 * m → (F x).may = true)) (fun i _ => 3 - (intOf i).toNat)
  case atStart => exact ⟨0, by omega, rfl, below_box _ _, fun x hx => by omega⟩
  case round =>
    obtain ⟨m, hm, rfl, hb, hall⟩ := hrel
    by_cases hlt : m < 3
    · have kix := ix27 F m hlt
      generalize hp : F (2 * m) = p at kix
      generalize hq : F (2 * m + 1) = q at kix
      rename_i wr _ _
      go_wp2_with (first | refine store_new rfl 31 _ _ rfl rfl rfl (by rw [lnc_size]; exact size25) (by rw [lnc_size]; rfl) (lnc_one _ _) ?_ | refine load_blk rfl 31 _ rfl (blk_new _ (lnc p q) 31) rfl Try.underlying31 rfl (by rw [lnc_size]; exact size25) ?_)
      go_loopw [13] (fun i w' => ∃ j : Nat, j ≤ 2 ∧ i = .int .i64 j ∧ Below w.heap.size w w' ∧ Hid (∀ x, x < 2 * m + j → (F x).may = true)) (fun i _ => 2 - (intOf i).toNat)
      case atStart => exact ⟨0, by omega, rfl, hb.alloc hb.size _, fun x hx => hall.out x (by omega)⟩
      case round =>
        clear hb hall kix
        obtain ⟨j, hj, rfl, hb, hall⟩ := hrel
        by_cases hjl : j < 2
        · have kj := ix25 F m j hjl
          rw [hp, hq] at kj
          generalize he : F (2 * m + j) = e at kj
          have hs : e.vals.toArray.size = 6 := rfl
          rename_i wi _ _
          go_wp2_with (first | refine store_new rfl 30 _ _ rfl rfl rfl (by rw [hs]; exact size24) (by rw [hs]; rfl) e.one ?_ | refine load_blk rfl 30 _ rfl (blk_new _ e.vals.toArray 30) rfl Try.underlying30 rfl (by rw [hs]; exact size24) ?_)
          refine (enCheck e _).mono ?_
          rintro r w2 ⟨rfl, hb2⟩
          have hb3 := (hb.alloc hb.size (.cells e.vals.toArray 30)).trans (hb2.mono (Nat.le_trans hb.size (by simp)))
          clear hb hb2
          cases hmay : e.may
          · have hno : Fr.may F = false := by
              cases hc : Fr.may F
              · rfl
              · have := (Fr.may_all F).1 hc (2 * m + j) (by omega)
                rw [he, hmay] at this
                cases this
            go_wp2_with fail
            go_ret
            exact ⟨by rw [← hc.out, hno]; rfl, hb3⟩
          · go_wp2_with fail
            refine ⟨⟨j + 1, by omega, by go_num, hb3, fun x hx => ?_⟩, by simp [intOf]; omega⟩
            rcases Nat.lt_or_ge x (2 * m + j) with h | h
            · exact hall.out x h
            · obtain rfl : x = 2 * m + j := by omega
              rw [he]; exact hmay
        · go_wp2_with fail
          refine ⟨⟨m + 1, by omega, by go_num, hb, fun x hx => hall.out x (by omega)⟩, by simp [intOf]; omega⟩
    · have hyes : Fr.may F = true := (Fr.may_all F).2 fun x hx => hall.out x (by omega)
      go_wp2_with fail
      go_ret
      exact ⟨by rw [← hc.out, hyes]; rfl, hb⟩

set_option maxHeartbeats 2000000 in
theorem rfrCheck (F : Nat → En) (w : World) : Calls Try.prog 25 #[.agg (frc F)] w fun r w' =>
    r = .returned (.int .i64 (if Fr.may F then 0 else 30)) ∧ Below w.heap.size w w' := by
  obtain ⟨c, hc⟩ : ∃ c : Int, Hid ((if Fr.may F then 0 else 30) = c) := ⟨_, rfl⟩
  rw [hc.out]
  go_enter Try.func25, Try.ntmps25
  go_wp2_with fail
  go_loopw [3] (fun i w' => ∃ m : Nat, m ≤ 3 ∧ i = .int .i64 m ∧ Below w.heap.size w w' ∧ Blk w.heap.size (frc F) 33 w' ∧ Hid (∀ x, x < 2 * m → (F x).may = true)) (fun i _ => 3 - (intOf i).toNat)
  case atStart => exact ⟨0, by omega, rfl, below_box _ _, blk_new w (frc F) 33, fun x hx => by omega⟩
  case round =>
    obtain ⟨m, hm, rfl, hb, hB, hall⟩ := hrel
    by_cases hlt : m < 3
    · have d1 : (m : Int) < 3 := by omega
      go_wp2_with fail
      go_loopw [4] (fun i w' => ∃ j : Nat, j ≤ 2 ∧ i = .int .i64 j ∧ Below w.heap.size w w' ∧ Blk w.heap.size (frc F) 33 w' ∧ Hid (∀ x, x < 2 * m + j → (F x).may = true)) (fun i _ => 2 - (intOf i).toNat)
      case atStart => exact ⟨0, by omega, rfl, hb, hB, fun x hx => hall.out x (by omega)⟩
      case round =>
        clear hb hall hB
        obtain ⟨j, hj, rfl, hb, hB, hall⟩ := hrel
        by_cases hjl : j < 2
        · have hpart := frc_part F (2 * m + j) (m * 12 + j * 6) (by omega) (by omega)
          generalize he : F (2 * m + j) = e at hpart
          go_wp2_with (refine load_part rfl 30 _ rfl hB rfl e.vals hpart Try.underlying30 rfl size24 ?_)
          refine (enMay e _).mono ?_
          rintro r w2 ⟨rfl, hb2⟩
          have hB2 := hB.below hb2
          have hb3 := hb.trans (hb2.mono hb.size)
          clear hb hb2 hB
          cases hmay : e.may
          · have hno : Fr.may F = false := by
              cases hc : Fr.may F
              · rfl
              · have := (Fr.may_all F).1 hc (2 * m + j) (by omega)
                rw [he, hmay] at this
                cases this
            go_wp2_with fail
            go_ret
            exact ⟨by rw [← hc.out, hno]; rfl, hb3⟩
          · go_wp2_with fail
            go_roundw
            case measure => simp [intOf]; omega
            refine ⟨j + 1, by omega, by go_num, hb3, hB2, fun x hx => ?_⟩
            rcases Nat.lt_or_ge x (2 * m + j) with h | h
            · exact hall.out x h
            · obtain rfl : x = 2 * m + j := by omega
              rw [he]; exact hmay
        · go_wp2_with fail
          go_roundw
          case measure => simp [intOf]; omega
          exact ⟨m + 1, by omega, by go_num, hb, hB, fun x hx => hall.out x (by omega)⟩
    · have hyes : Fr.may F = true := (Fr.may_all F).2 fun x hx => hall.out x (by omega)
      go_wp2_with fail
      go_ret
      exact ⟨by rw [← hc.out, hyes]; rfl, hb⟩

end Go.Proofs.Ytmbddjejbmjmfaa
