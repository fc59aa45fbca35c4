/-
  Whether a packet may be: what mayBe and Check return, the code's and the document's.
  No condition.
-/
import Derived.Test.YtmbddjejbmjmfaaPkMath
import Derived.Test.YtmbddjejbmjmfaaFrCk
import Derived.Test.YtmbddjejbmjmfaaFrEq
namespace Go.Proofs.Ytmbddjejbmjmfaa
set_option maxRecDepth 10000
open Go.RowKit Go.Sort

set_option maxHeartbeats 1000000 in
theorem areDaemons_gen (B : Nat) (C : Array Value) (T : TypeId) (L : List Nat) (hlen : L.length ≤ 8) (w : World) (hB : Blk B C T w) (hL : ∀ (i x : Nat), L[i]? = some x → C[i]? = some (.int .u32 (x : Int))) (cap : Nat) :
    Calls Try.prog 46 #[.slice (some ⟨B, 0, none⟩) L.length cap] w fun e w' => e = .returned (.bool (L.all (· < 8))) ∧ w' = w := by
  obtain ⟨c, hc⟩ : ∃ c : Bool, Hid (L.all (· < 8) = c) := ⟨_, rfl⟩
  rw [hc.out]
  go_enter Try.func46, Try.ntmps46
  go_wp2_with fail
  go_loop [7] (fun i => ∃ m : Nat, m ≤ L.length ∧ i = .int .i64 m ∧ Hid (∀ (j x : Nat), j < m → L[j]? = some x → x < 8)) (fun i => L.length - (intOf i).toNat)
  case atStart => exact ⟨0, by omega, rfl, fun j x hj => by omega⟩
  case round =>
    obtain ⟨m, hm, rfl, hall⟩ := hrel
    by_cases hlt : m < L.length
    · have hcell := hB.cell m _ (hL m L[m] (List.getElem?_eq_getElem hlt))
      have hget : Hid (L[m]? = some L[m]) := List.getElem?_eq_getElem hlt
      generalize hxe : L[m] = x at hcell hget
      have HL : Hid (L[m] = x) := hxe
      clear hL hB hxe
      by_cases hx : x < 8
      · have hx2 : ¬ (8 : Int) ≤ (x : Int) := by omega
        clear hx
        go_wp2_with fail
        go_round
        case measure => simp [intOf]; omega
        refine ⟨m + 1, by omega, by go_num, fun j y hj hy => ?_⟩
        rcases Nat.lt_or_ge j m with h | h
        · exact hall.out j y h hy
        · obtain rfl : j = m := by omega
          rw [hget.out] at hy
          cases hy
          omega
      · have hx2 : (8 : Int) ≤ (x : Int) := by omega
        have hno : c = false := by
          rw [← hc.out]
          cases h : L.all (· < 8)
          · rfl
          · have := (List.all_eq_true.1 h) x (List.mem_of_getElem? hget.out)
            simp only [decide_eq_true_eq] at this
            omega
        clear hx
        go_wp2_with fail
        go_ret
        exact ⟨rfl, rfl⟩
    · have hyes : c = true := by
        rw [← hc.out]
        refine List.all_eq_true.2 fun x hx => ?_
        obtain ⟨j, hj⟩ := List.mem_iff_getElem?.1 hx
        have := hall.out j x (by have := (List.getElem?_eq_some_iff.1 hj).1; omega) hj
        simpa using this
      go_wp2_with fail
      go_ret
      exact ⟨rfl, rfl⟩

theorem areDaemons_ok (a b c d : Nat) (w : World) : Calls Try.prog 46 #[.slice (some ⟨w.heap.size, 0, none⟩) 4 4] (w.alloc (.cells #[.int .u32 (a : Int), .int .u32 (b : Int), .int .u32 (c : Int), .int .u32 (d : Int)] 22)) fun e w' =>
    e = .returned (.bool (decide (a < 8) && (decide (b < 8) && (decide (c < 8) && decide (d < 8))))) ∧ w' = w.alloc (.cells #[.int .u32 (a : Int), .int .u32 (b : Int), .int .u32 (c : Int), .int .u32 (d : Int)] 22) := by
  have h := areDaemons_gen w.heap.size #[.int .u32 (a : Int), .int .u32 (b : Int), .int .u32 (c : Int), .int .u32 (d : Int)] 22 [a, b, c, d] (by simp) (w.alloc (.cells #[.int .u32 (a : Int), .int .u32 (b : Int), .int .u32 (c : Int), .int .u32 (d : Int)] 22)) (blk_new w _ _)
    (fun i x hx => by
      match i, hx with
      | 0, hx => cases hx; rfl
      | 1, hx => cases hx; rfl
      | 2, hx => cases hx; rfl
      | 3, hx => cases hx; rfl
      | i + 4, hx => simp at hx) 4
  refine h.mono ?_
  rintro e w' ⟨rfl, rfl⟩
  exact ⟨by simp, rfl⟩

def f3c (F G H : Nat → En) : Array Value := (enCells (Fr.list F) ++ (enCells (Fr.list G) ++ enCells (Fr.list H))).toArray
def sel3 (F G H : Nat → En) (m : Nat) : Nat → En := if m = 0 then F else if m = 1 then G else H

theorem f3c_part (F G H : Nat → En) (m : Nat) (hm : m < 3) : ((f3c F G H).extract (m * 36) (m * 36 + (enCells (Fr.list (sel3 F G H m))).length)).toList = enCells (Fr.list (sel3 F G H m)) := by
  obtain rfl | rfl | rfl : m = 0 ∨ m = 1 ∨ m = 2 := by omega
  all_goals kernel_rfl

theorem bs_frames (F G H : Nat → En) (w : World) : (Instr.buildSlice 104 3 #[(0, .agg (frc F)), (1, .agg (frc G)), (2, .agg (frc H))]).run Try.prog w = .ok (.slice (some ⟨w.heap.size, 0, none⟩) 3 3) (w.alloc (.cells (f3c F G H) 33)) := by kernel_rfl

theorem build_frames {ops : Array Oper} {rest : List Oper} {op : Oper} {a : Act} {w : World} {Q : Exit → Act → World → Prop} (hw : Region.wanted op (yielded ops a.tmps) = true) (x y z : Operand) (ho : op.op = .buildSlice 104 3 #[(0, x), (1, y), (2, z)])
    (F G H : Nat → En) (hx : a.eval x = .agg (frc F)) (hy : a.eval y = .agg (frc G)) (hz : a.eval z = .agg (frc H))
    (h : wpList Try.prog ops Q rest (a.put op.dst (.slice (some ⟨w.heap.size, 0, none⟩) 3 3)) (w.alloc (.cells (f3c F G H) 33))) : wpList Try.prog ops Q (op :: rest) a w :=
  wpList_step fun _ hK => by
    rw [if_pos hw]
    have hk := hK _ _ h
    unfold Oper.wp execOp
    simp only [ho, List.map_toArray, List.map_cons, List.map_nil, hx, hy, hz, Sem.run_bind, Sem.run_pure, bs_frames, Result.andThen_ok]
    exact hk

set_option maxHeartbeats 1000000 in
theorem areFrames_ok (F G H : Nat → En) (w : World) : Calls Try.prog 47 #[.slice (some ⟨w.heap.size, 0, none⟩) 3 3] (w.alloc (.cells (f3c F G H) 33)) fun e w' =>
    e = .returned (.bool (Fr.may F && (Fr.may G && Fr.may H))) ∧ Below w.heap.size w w' := by
  obtain ⟨c, hc⟩ : ∃ c, Hid ((Fr.may F && (Fr.may G && Fr.may H)) = c) := ⟨_, rfl⟩
  rw [hc.out]
  obtain ⟨w0, hw0⟩ : ∃ w0, w.alloc (.cells (f3c F G H) 33) = w0 := ⟨_, rfl⟩
  rw [hw0]
  have B0 : Blk w.heap.size (f3c F G H) 33 w0 := by rw [← hw0]; exact blk_new w _ _
  have b0 : Below w.heap.size w w0 := by rw [← hw0]; exact below_box _ _
  clear hw0
  go_enter Try.func47, Try.ntmps47
  go_wp2_with fail
  go_loopw [7] (fun i w' => ∃ m : Nat, m ≤ 3 ∧ i = .int .i64 m ∧ Below w.heap.size w w' ∧ Blk w.heap.size (f3c F G H) 33 w' ∧ Hid (∀ j, j < m → Fr.may (sel3 F G H j) = true)) (fun i _ => 3 - (intOf i).toNat)
  case atStart => exact ⟨0, by omega, rfl, b0, B0, fun j hj => by omega⟩
  case round =>
    clear b0 B0
    obtain ⟨m, hm, rfl, hb, hB, hall⟩ := hrel
    by_cases hlt : m < 3
    · have d1 : (m : Int) < 3 := by omega
      have hpart := f3c_part F G H m hlt
      generalize hS : sel3 F G H m = S at hpart
      have HS : Hid (sel3 F G H m = S) := hS
      clear hS
      have hck := fun w => frCheck S w
      go_wp2_with (first | refine load_part (o := m * 36) rfl 33 _ rfl hB rfl (enCells (Fr.list S)) hpart Try.underlying33 rfl (by rw [frl_length]; exact size27) ?_ | refine alloc_fr rfl rfl ?_ | refine store_new (cells := frc S) rfl 33 _ _ rfl rfl rfl (by rw [frc_size]; exact size27) (by rw [frc_size, frc_size]) (frc_one S) ?_ | refine load_blk rfl 33 _ rfl (blk_new _ (frc S) 33) rfl Try.underlying33 rfl (by rw [frc_size]; exact size27) ?_)
      refine (hck _).mono ?_
      rintro r w2 ⟨rfl, hb2⟩
      have hb3 := (hb.alloc hb.size (.cells (frc S) 33)).trans (hb2.mono (Nat.le_trans hb.size (by simp)))
      have hB3 := (hB.alloc (.cells (frc S) 33)).below hb2
      clear hb hb2 hB hck hpart
      cases hmay : Fr.may S
      · have hno : c = false := by
          rw [← hc.out]
          have hs := HS.out
          obtain rfl | rfl | rfl : m = 0 ∨ m = 1 ∨ m = 2 := by omega
          · rw [show F = S from hs, hmay]; rfl
          · rw [show G = S from hs, hmay]; simp
          · rw [show H = S from hs, hmay]; simp
        go_wp2_with fail
        go_ret
        exact ⟨by rw [hno]; rfl, hb3⟩
      · go_wp2_with fail
        go_roundw
        case measure => simp [intOf]; omega
        refine ⟨m + 1, by omega, by go_num, hb3, hB3, fun j hj => ?_⟩
        rcases Nat.lt_or_ge j m with h | h
        · exact hall.out j h
        · obtain rfl : j = m := by omega
          rw [HS.out]; exact hmay
    · have d1 : ¬ (m : Int) < 3 := by omega
      have hyes : c = true := by
        rw [← hc.out]
        have h0 := hall.out 0 (by omega)
        have h1 := hall.out 1 (by omega)
        have h2 := hall.out 2 (by omega)
        rw [show Fr.may F = true from h0, show Fr.may G = true from h1, show Fr.may H = true from h2]; rfl
      go_wp2_with fail
      go_ret
      exact ⟨by first | rfl | (rw [hyes]; rfl), hb⟩

set_option maxHeartbeats 1000000 in
theorem mayBe_pk (p : Pk) (w : World) : Calls Try.prog 24 #[.agg (pkc p)] w fun e w' => e = .returned (.bool p.may) ∧ Below w.heap.size w w' := by
  obtain ⟨c, hc⟩ : ∃ c, Hid (p.may = c) := ⟨_, rfl⟩
  rw [hc.out]
  obtain ⟨w0, hw0⟩ : ∃ w0, w.alloc (.cells (pkc p) 35) = w0 := ⟨_, rfl⟩
  have B0 : Blk w.heap.size (pkc p) 35 w0 := by rw [← hw0]; exact blk_new w _ _
  have b0 : Below w.heap.size w w0 := by rw [← hw0]; exact below_box _ _
  have c0 := B0.cell 0 (.int .u32 (p.n 0 : Int)) rfl
  have c1 := B0.cell 107 (.int .u32 (p.n 107 : Int)) rfl
  have c2 := B0.cell 3 (.int .u32 (p.n 3 : Int)) rfl
  have c3 := B0.cell 22 (.int .u32 (p.n 22 : Int)) rfl
  go_enter Try.func24, Try.ntmps24
  go_wp2_with fail
  refine (areDaemons_ok (p.n 0) (p.n 107) (p.n 3) (p.n 22) w0).mono ?_
  rintro e w1 ⟨rfl, hw1⟩
  have B1 : Blk w.heap.size (pkc p) 35 w1 := by rw [hw1]; exact B0.alloc _
  have b1 : Below w.heap.size w w1 := by rw [hw1]; exact b0.alloc b0.size _
  clear hw1 b0 B0 c0 c1 c2 c3
  cases hd : (decide (p.n 0 < 8) && (decide (p.n 107 < 8) && (decide (p.n 3 < 8) && decide (p.n 22 < 8))))
  · have hm : c = false := by rw [← hc.out]; unfold Pk.may; rw [hd]; rfl
    subst hm
    go_wp2_with fail
    go_ret
    exact ⟨rfl, b1⟩
  · have hm : c = (Fr.may p.f0 && (Fr.may p.f1 && Fr.may p.f2)) := by rw [← hc.out]; unfold Pk.may; rw [hd]; rfl
    have HM : Hid (c = (Fr.may p.f0 && (Fr.may p.f1 && Fr.may p.f2))) := hm
    clear hm hd
    go_wp2_with (first | refine load_wpart (o := 35) (by rfl) 33 _ rfl B1 rfl (enCells (Fr.list p.f0)) (part_f0 p) Try.underlying33 rfl (by rw [frl_length]; exact size27) ?_ | refine load_wpart (o := 71) (by rfl) 33 _ rfl B1 rfl (enCells (Fr.list p.f1)) (part_f1 p) Try.underlying33 rfl (by rw [frl_length]; exact size27) ?_ | refine load_wpart (o := 109) (by rfl) 33 _ rfl B1 rfl (enCells (Fr.list p.f2)) (part_f2 p) Try.underlying33 rfl (by rw [frl_length]; exact size27) ?_ | refine build_frames (by rfl) _ _ _ rfl p.f0 p.f1 p.f2 rfl rfl rfl ?_)
    refine (areFrames_ok p.f0 p.f1 p.f2 w1).mono ?_
    rintro e w2 ⟨rfl, hb2⟩
    go_wp2_with fail
    go_ret
    have hcc := HM.out
    subst hcc
    exact ⟨rfl, b1.trans (hb2.mono b1.size)⟩

set_option maxHeartbeats 1000000 in
theorem check_pk (p : Pk) (w : World) : Calls Try.prog 12 #[.agg (pkc p)] w fun e w' => e = .returned (.int .i64 (if p.may then 0 else 52)) ∧ Below w.heap.size w w' := by
  have hmb := fun w => mayBe_pk p w
  have hB := blk_new w (pkc p) 35
  have b0 := below_box w (.cells (pkc p) 35)
  cases hm : p.may
  · rw [hm] at hmb
    go_enter Try.func12, Try.ntmps12
    go_wp2_with (refine load_blk rfl 35 _ rfl hB rfl Try.underlying35 rfl (by rw [pkc_size]; exact size35) ?_)
    refine (hmb _).mono ?_
    rintro r w1 ⟨rfl, hb1⟩
    go_wp2_with fail
    go_ret
    exact ⟨rfl, b0.trans (hb1.mono b0.size)⟩
  · rw [hm] at hmb
    go_enter Try.func12, Try.ntmps12
    go_wp2_with (refine load_blk rfl 35 _ rfl hB rfl Try.underlying35 rfl (by rw [pkc_size]; exact size35) ?_)
    refine (hmb _).mono ?_
    rintro r w1 ⟨rfl, hb1⟩
    go_wp2_with fail
    go_ret
    exact ⟨rfl, b0.trans (hb1.mono b0.size)⟩

set_option maxHeartbeats 2000000 in
theorem rcheck_pk (p : Pk) (w : World) : Calls Try.prog 13 #[.agg (pkc p)] w fun e w' => e = .returned (.int .i64 (if p.may then 0 else 52)) ∧ Below w.heap.size w w' := by
  obtain ⟨c, hc⟩ : ∃ c : Int, Hid ((if p.may then 0 else 52) = c) := ⟨_, rfl⟩
  rw [hc.out]
  obtain ⟨w0, hw0⟩ : ∃ w0, w.alloc (.cells (pkc p) 35) = w0 := ⟨_, rfl⟩
  have B0 : Blk w.heap.size (pkc p) 35 w0 := by rw [← hw0]; exact blk_new w _ _
  have b0 : Below w.heap.size w w0 := by rw [← hw0]; exact below_box _ _
  have c0 := B0.cell 0 (.int .u32 (p.n 0 : Int)) rfl
  have c1 := B0.cell 107 (.int .u32 (p.n 107 : Int)) rfl
  have c2 := B0.cell 3 (.int .u32 (p.n 3 : Int)) rfl
  have c3 := B0.cell 22 (.int .u32 (p.n 22 : Int)) rfl
  by_cases hd : (decide (p.n 0 < 8) && (decide (p.n 107 < 8) && (decide (p.n 3 < 8) && decide (p.n 22 < 8)))) = true
  · have hm : Hid (p.may = (Fr.may p.f0 && (Fr.may p.f1 && Fr.may p.f2))) := by unfold Hid Pk.may; rw [hd]; rfl
    simp only [Bool.and_eq_true, decide_eq_true_eq] at hd
    obtain ⟨h0, h1, h2, h3⟩ := hd
    have g0 : ¬ (7 : Int) < (p.n 0 : Int) := by omega
    have g1 : ¬ (7 : Int) < (p.n 107 : Int) := by omega
    have g2 : ¬ (7 : Int) < (p.n 3 : Int) := by omega
    have g3 : ¬ (7 : Int) < (p.n 22 : Int) := by omega
    clear h0 h1 h2 h3
    have k0 := fun w => rfrCheck p.f0 w
    have k1 := fun w => rfrCheck p.f1 w
    have k2 := fun w => rfrCheck p.f2 w
    go_enter Try.func13, Try.ntmps13
    go_wp2_with (refine load_part (o := 35) rfl 33 _ rfl B0 rfl (enCells (Fr.list p.f0)) (part_f0 p) Try.underlying33 rfl (by rw [frl_length]; exact size27) ?_)
    refine (k0 _).mono ?_
    rintro e w1 ⟨rfl, hb1⟩
    have B1 := B0.below hb1
    have b1 := b0.trans (hb1.mono b0.size)
    clear hb1 B0 b0 c0 c1 c2 c3 g0 g1 g2 g3 k0 hw0
    cases m0 : Fr.may p.f0
    · have hcc : c = 52 := by rw [← hc.out, hm.out, m0]; rfl
      go_wp2_with fail
      go_ret
      exact ⟨by first | rfl | (rw [hcc]; rfl), b1⟩
    · go_wp2_with (refine load_wpart (o := 71) (by rfl) 33 _ rfl B1 rfl (enCells (Fr.list p.f1)) (part_f1 p) Try.underlying33 rfl (by rw [frl_length]; exact size27) ?_)
      refine (k1 _).mono ?_
      rintro e w2 ⟨rfl, hb2⟩
      have B2 := B1.below hb2
      have b2 := b1.trans (hb2.mono b1.size)
      clear hb2 B1 b1 k1
      cases m1 : Fr.may p.f1
      · have hcc : c = 52 := by rw [← hc.out, hm.out, m0, m1]; rfl
        go_wp2_with fail
        go_ret
        exact ⟨by first | rfl | (rw [hcc]; rfl), b2⟩
      · go_wp2_with (refine load_wpart (o := 109) (by rfl) 33 _ rfl B2 rfl (enCells (Fr.list p.f2)) (part_f2 p) Try.underlying33 rfl (by rw [frl_length]; exact size27) ?_)
        refine (k2 _).mono ?_
        rintro e w3 ⟨rfl, hb3⟩
        have b3 := b2.trans (hb3.mono b2.size)
        clear hb3 B2 b2 k2
        cases m2 : Fr.may p.f2
        · have hcc : c = 52 := by rw [← hc.out, hm.out, m0, m1, m2]; rfl
          go_wp2_with fail
          go_ret
          exact ⟨by first | rfl | (rw [hcc]; rfl), b3⟩
        · have hcc : c = 0 := by rw [← hc.out, hm.out, m0, m1, m2]; rfl
          go_wp2_with fail
          go_ret
          exact ⟨by first | rfl | (rw [hcc]; rfl), b3⟩
  · have hd2 := Bool.eq_false_iff.2 hd
    have hcc : c = 52 := by rw [← hc.out]; unfold Pk.may; rw [hd2]; rfl
    have hor : (7 < (p.n 0 : Int)) ∨ (¬ 7 < (p.n 0 : Int) ∧ 7 < (p.n 107 : Int)) ∨ (¬ 7 < (p.n 0 : Int) ∧ ¬ 7 < (p.n 107 : Int) ∧ 7 < (p.n 3 : Int)) ∨ (¬ 7 < (p.n 0 : Int) ∧ ¬ 7 < (p.n 107 : Int) ∧ ¬ 7 < (p.n 3 : Int) ∧ 7 < (p.n 22 : Int)) := by
      simp only [Bool.and_eq_true, decide_eq_true_eq] at hd
      omega
    clear hd hd2
    subst hcc
    rcases hor with g0 | ⟨g0, g1⟩ | ⟨g0, g1, g2⟩ | ⟨g0, g1, g2, g3⟩
    all_goals
      go_enter Try.func13, Try.ntmps13
      go_wp2_with fail
      go_ret
      exact ⟨rfl, b0⟩

end Go.Proofs.Ytmbddjejbmjmfaa
