/-
  Whatever is offered, in whatever order, however often: of each member the frames that are taken have the rounds 1, 2, 3 and so on, each once; and the last three of them are kept, and no others: the law KeptOnce returns true for every input.
  No condition beyond the form's own.
-/
import Derived.Test.YteibclgipninoaaRows
import Derived.Test.YteibclgipninoaaKtO
import Derived.WalkKit
import Derived.ProofKit
import Derived.OpenShut
import Derived.ShutString
import Derived.SizedLaws
import Derived.ChangeOld
import Derived.Below
namespace Go.Proofs.Yteibclgipninoaa.keptOnce
open Go.Sort Go.ChangeShapes Go.WideShapes Go.ChangeAt Go.RowKit
open Go.ChangeMaps (open_string shut_string)
set_option linter.unusedVariables false
set_option maxRecDepth 10000

theorem own : ownKnob Try.prog.godebug = none := by kernel_rfl
theorem length_bytes (s : ByteArray) : s.data.toList.length = s.size := by rw [Array.length_toList]; rfl

def Atk (b o : Nat) (x : Kt) (u : World) : Prop := b < u.heap.size ∧ u.rangeAt b o x.vals
theorem Atk.below {b o : Nat} {x : Kt} {u u' : World} (h : Atk b o x u) (hb : Below u.heap.size u u') : Atk b o x u' := ⟨Nat.lt_of_lt_of_le h.1 hb.size, range_block h.2 (hb.block b h.1)⟩
theorem Atk.kp1 {b o p : Nat} {x : Kt} {u u' : World} (h : Atk b o x u) (hk : Kp [p] u u') (hne : b ≠ p) : Atk b o x u' := ⟨Nat.lt_of_lt_of_le h.1 hk.size, range_block h.2 (hk.block b h.1 (by simpa using hne))⟩
theorem Atk.drew {b o : Nat} {x : Kt} {u : World} (h : Atk b o x u) : Atk b o x u.drew := h
def CutO (W : World) (L2 : List Kt) (C2 : Nat → Nat) (tb : Bool) (yn2 : Nat) (v9 v10 v11 : Value) (wx : World) : Prop :=
  ∃ a k p, v9 = .slice a yn2 k ∧ v10 = .pointer (some ⟨p, 0, none⟩) ∧ v11 = .bool tb ∧ Li Kt.vals W.heap.size a L2 wx ∧ Blk p (mbc C2) 25 wx ∧ W.heap.size ≤ p ∧ Below W.heap.size W wx
theorem and7 (d : Nat) (h : d < 8) : bits .and .i64 (d : Int) 7 = (d : Int) := by
  obtain rfl | rfl | rfl | rfl | rfl | rfl | rfl | rfl : d = 0 ∨ d = 1 ∨ d = 2 ∨ d = 3 ∨ d = 4 ∨ d = 5 ∨ d = 6 ∨ d = 7 := by omega
  all_goals rfl

set_option maxHeartbeats 16000000 in
theorem walk (m : Nat → Nat) (la : Option Addr) (Lp : List Kt) (lc : Nat) (lm : Lp.length ≤ maxLen) (w : World) (lS : Li Kt.vals 0 la Lp w) :
    Calls Try.prog 5 #[.agg (mbc m), .slice la Lp.length lc] w fun e w' => e = .returned (.bool true) ∧ Below w.heap.size w w' := by
  obtain ⟨NN, hNN⟩ : ∃ NN, Lp.length = NN := ⟨_, rfl⟩
  simp only [maxLen] at lm
  rw [hNN] at lm ⊢
  have HNN : Hid (Lp.length = NN) := hNN
  clear hNN
  obtain ⟨b2, b1, b6, b7, hB⟩ := four_blk (T0 := 26) (T1 := 36) (T2 := 25) (T3 := 25) (C0 := mbc m) (C1 := #[]) (C2 := mbc noMb) (C3 := mbc noMb) (w := w) rfl
  go_enter Try.func5, Try.ntmps5
  go_upto_region 3 with (first | refine box_no rfl rfl ?_ | refine build_zero builtCt rfl rfl ?_ | refine alloc_zero zeroCt rfl rfl ?_ | refine store_new rfl 25 _ _ rfl (cells := mbc noMb) (by first | rfl | go_simp) rfl sizeCt rfl (mbc_one _) ?_)
  try simp only [Act.put]
  try simp only [alloc_size]
  generalize (((w.alloc (Obj.cells (mbc m) 26)).alloc (Obj.cells #[] 36)).alloc (Obj.cells (mbc noMb) 25)).alloc (Obj.cells (mbc noMb) 25) = W0 at b2 b1 b6 b7 hB ⊢
  clear b1
  go_wp2_with fail
  go_loopw [5, 8] (fun kv iv wr => ∃ (j : Nat) (Y : List Kt) (c : Nat → Nat) (ka : Option Addr) (yn kc : Nat), j ≤ NN ∧ j ≤ 200 ∧ iv = .int .i64 j ∧ kv = .slice ka yn kc ∧ Hid (Y.length = yn) ∧ Hid (InvK c Y j) ∧ Li Kt.vals 0 ka Y wr ∧ Blk w.heap.size (mbc m) 26 wr ∧ Blk (w.heap.size + 1 + 1) (mbc c) 25 wr ∧ Blk (w.heap.size + 1 + 1 + 1) (mbc c) 25 wr ∧ Below w.heap.size w wr) (fun _ iv _ => 200 - (intOf iv).toNat)
  case atStart => exact ⟨0, [], noMb, _, 0, 0, by omega, by omega, rfl, rfl, rfl, InvK.first, Li.nil _ _ _, b2, b6, b7, hB⟩
  case round =>
    clear b2 b6 b7 hB
    obtain ⟨j, Y, c, ka, yn, kc, hj, hj200, rfl, rfl, HNy, HI, kl, b2, b6, b7, hB⟩ := hrel
    by_cases hjn : j < NN
    · have j0 : (j : Int) < (NN : Int) := by omega
      by_cases hj2 : j < 200
      · have j2 : (j : Int) < 200 := by omega
        have j1 : (0 : Int) ≤ (j : Int) := by omega
        obtain ⟨x, hx⟩ : ∃ x, Lp[j]? = some x := ⟨_, List.getElem?_eq_getElem (by rw [HNN.out]; exact hjn)⟩
        obtain ⟨b, o, rfl, _, hbl, hr⟩ := lS.at Kt.vals_length j x hx
        have at0 : Atk b (o + j * 38) x wr := ⟨Nat.lt_of_lt_of_le hbl hB.size, range_block hr (hB.block b hbl)⟩
        have hle := HI.out.le
        have hlen := HI.out.len
        rw [HNy.out] at hlen
        have pT := take_ok Y ka kc c m x (fun i => by have := hle i; omega) (by rw [HNy.out]; omega)
        have hl2 := takeK_len Y c m x
        rw [HNy.out] at hl2
        obtain ⟨tb, HTB⟩ : ∃ tb, Hid (takesB c m x = tb) := ⟨_, rfl⟩
        obtain ⟨L2, HL2⟩ : ∃ L2, Hid (takeK Y c m x = L2) := ⟨_, rfl⟩
        obtain ⟨C2, HC2⟩ : ∃ C2, Hid (takeKC c m x = C2) := ⟨_, rfl⟩
        rw [HTB.out, HL2.out, HC2.out, HNy.out] at pT
        rw [HL2.out] at hl2
        obtain ⟨yn2, HN2⟩ : ∃ yn2, Hid (L2.length = yn2) := ⟨_, rfl⟩
        unfold Took at pT
        rw [HN2.out] at pT
        rw [HN2.out] at hl2
        clear hx hr hle
        go_upto_region 6 with fail
        try simp only [Act.put]
        obtain ⟨W, hW⟩ : ∃ W, wr = W := ⟨_, rfl⟩
        subst hW
        go_cut [9, 10, 11] from 30 to 41 (fun v9 v10 v11 wx => CutO wr L2 C2 tb yn2 v9 v10 v11 wx)
        case first =>
          have hC : Below wr.heap.size wr wr.drew := (Below.refl _ _).drew
          replace kl : Li Kt.vals 0 ka Y wr.drew := kl.below (Below.refl _ _).drew
          have s6 := b6.lt
          have s7 := b7.lt
          have sb := at0.1
          refine wp_region_held_drew (S := fun w' => Blk (w.heap.size + 1 + 1) (mbc c) 25 w' ∧ (Blk w.heap.size (mbc m) 26 w' ∧ Atk b (o + j * 38) x w')) (by kernel_rfl) ⟨b6.drew, b2.drew, at0.drew⟩ (fun hHeld => ?_)
          refine wpAnyH_take (i := 0) (v := ?v13) rfl (by kernel_rfl) (by kernel_rfl) (by kernel_rfl) (fun _ _ _ h => h) (Or.inl ⟨by rfl, ?hy13⟩) hHeld ?rest13
          case hy13 => (intro w hSw; clear hSw; go_simp; try with_reducible rfl)
          try simp only [List.getElem_toArray]
          try simp only [List.getElem_cons_succ]
          try simp only [List.getElem_cons_zero]
          try simp only [Act.put]
          try simp only [List.setIfInBounds_toArray]
          try simp only [List.set_cons_succ]
          try simp only [List.set_cons_zero]
          refine' wpAnyH_take (i := 1) (v := _) rfl (by kernel_rfl) (by kernel_rfl) (by kernel_rfl) (fun _ _ _ h => h) (yieldsIf_load_mid (by rfl) _ _ rfl (w.heap.size + 1 + 1) 0 rfl (mbc c).toList _ ?hS14 Try.underlying25 rfl sizeCt) hHeld ?rest14
          case hS14 => exact fun w h => h.1.whole
          try simp only [List.getElem_toArray]
          try simp only [List.getElem_cons_succ]
          try simp only [List.getElem_cons_zero]
          try simp only [Act.put]
          try simp only [List.setIfInBounds_toArray]
          try simp only [List.set_cons_succ]
          try simp only [List.set_cons_zero]
          refine' wpAnyH_take (i := 2) (v := _) rfl (by kernel_rfl) (by kernel_rfl) (by kernel_rfl) (fun _ _ _ h => h) (yieldsIf_load_mid (by rfl) _ _ rfl w.heap.size 0 rfl (mbc m).toList _ ?hS15 Try.underlying26 rfl sizeMb) hHeld ?rest15
          case hS15 => exact fun w h => h.2.1.whole
          try simp only [List.getElem_toArray]
          try simp only [List.getElem_cons_succ]
          try simp only [List.getElem_cons_zero]
          try simp only [Act.put]
          try simp only [List.setIfInBounds_toArray]
          try simp only [List.set_cons_succ]
          try simp only [List.set_cons_zero]
          refine wpAnyH_take (i := 3) (v := ?v16) rfl (by kernel_rfl) (by kernel_rfl) (by kernel_rfl) (fun _ _ _ h => h) (Or.inl ⟨by rfl, ?hy16⟩) hHeld ?rest16
          case hy16 => (intro w hSw; clear hSw; go_simp; try with_reducible rfl)
          try simp only [List.getElem_toArray]
          try simp only [List.getElem_cons_succ]
          try simp only [List.getElem_cons_zero]
          try simp only [Act.put]
          try simp only [List.setIfInBounds_toArray]
          try simp only [List.set_cons_succ]
          try simp only [List.set_cons_zero]
          refine wpAnyH_take (i := 4) (v := ?v17) rfl (by kernel_rfl) (by kernel_rfl) (by kernel_rfl) (fun _ _ _ h => h) (Or.inl ⟨by rfl, ?hy17⟩) hHeld ?rest17
          case hy17 => (intro w hSw; clear hSw; go_simp; try with_reducible rfl)
          try simp only [List.getElem_toArray]
          try simp only [List.getElem_cons_succ]
          try simp only [List.getElem_cons_zero]
          try simp only [Act.put]
          try simp only [List.setIfInBounds_toArray]
          try simp only [List.set_cons_succ]
          try simp only [List.set_cons_zero]
          refine wpAnyH_take (i := 5) (v := ?v18) rfl (by kernel_rfl) (by kernel_rfl) (by kernel_rfl) (fun _ _ _ h => h) (Or.inl ⟨by rfl, ?hy18⟩) hHeld ?rest18
          case hy18 => (intro w hSw; clear hSw; go_simp; try with_reducible rfl)
          try simp only [List.getElem_toArray]
          try simp only [List.getElem_cons_succ]
          try simp only [List.getElem_cons_zero]
          try simp only [Act.put]
          try simp only [List.setIfInBounds_toArray]
          try simp only [List.set_cons_succ]
          try simp only [List.set_cons_zero]
          refine' wpAnyH_take (i := 6) (v := _) rfl (by kernel_rfl) (by kernel_rfl) (by kernel_rfl) (fun _ _ _ h => h) (yieldsIf_load_mid (by rfl) _ _ rfl b (o + j * 38) rfl x.vals _ ?hS19 Try.underlying36 rfl sizeKt) hHeld ?rest19
          case hS19 => exact fun w h => h.2.2.2
          try simp only [List.getElem_toArray]
          try simp only [List.getElem_cons_succ]
          try simp only [List.getElem_cons_zero]
          try simp only [Act.put]
          try simp only [List.setIfInBounds_toArray]
          try simp only [List.set_cons_succ]
          try simp only [List.set_cons_zero]
          refine wpAnyH_ready (rs := [7, 12]) (by kernel_rfl) (by simp) ?_
          refine AllReadyH.cons rfl (fun K hK => ?_) (AllReadyH.cons rfl (fun K hK => ?_) (AllReadyH.nil))
          · go_simp
            go_wp2_with (refine (pT _ kl).mono ?_; rintro r u1 ⟨⟨ra, rk, rfl, rl⟩, hb⟩)
            have hCc := hC.trans (hb.mono hC.size)
            have sC := hC.size
            refine hK.out _ _ ⟨hHeld.1.below hb, hHeld.2.1.below hb, hHeld.2.2.below hb⟩ (fun hHeld => ?_)
            clear hK K hb
            replace hC := hCc
            clear hCc
            refine wpAnyH_take (i := 8) (v := ?v1) rfl (by kernel_rfl) (by kernel_rfl) (by kernel_rfl) (fun _ _ _ h => h) (Or.inl ⟨by rfl, ?hy1⟩) hHeld ?rest1
            case hy1 => (intro w hSw; clear hSw; go_simp; try with_reducible rfl)
            try simp only [List.getElem_toArray]
            try simp only [List.getElem_cons_succ]
            try simp only [List.getElem_cons_zero]
            try simp only [Act.put]
            try simp only [List.setIfInBounds_toArray]
            try simp only [List.set_cons_succ]
            try simp only [List.set_cons_zero]
            refine wpAnyH_take (i := 9) (v := ?v2) rfl (by kernel_rfl) (by kernel_rfl) (by kernel_rfl) (fun _ _ _ h => h) (Or.inl ⟨by rfl, ?hy2⟩) hHeld ?rest2
            case hy2 => (intro w hSw; clear hSw; go_simp; try with_reducible rfl)
            try simp only [List.getElem_toArray]
            try simp only [List.getElem_cons_succ]
            try simp only [List.getElem_cons_zero]
            try simp only [Act.put]
            try simp only [List.setIfInBounds_toArray]
            try simp only [List.set_cons_succ]
            try simp only [List.set_cons_zero]
            refine wpAnyH_take (i := 10) (v := ?v3) rfl (by kernel_rfl) (by kernel_rfl) (by kernel_rfl) (fun _ _ _ h => h) (Or.inl ⟨by rfl, ?hy3⟩) hHeld ?rest3
            case hy3 => (intro w hSw; clear hSw; go_simp; try with_reducible rfl)
            try simp only [List.getElem_toArray]
            try simp only [List.getElem_cons_succ]
            try simp only [List.getElem_cons_zero]
            try simp only [Act.put]
            try simp only [List.setIfInBounds_toArray]
            try simp only [List.set_cons_succ]
            try simp only [List.set_cons_zero]
            refine wpAnyH_take (i := 11) (v := ?v4) rfl (by kernel_rfl) (by kernel_rfl) (by kernel_rfl) (fun _ _ _ h => h) (Or.inl ⟨by rfl, ?hy4⟩) hHeld ?rest4
            case hy4 => (intro w hSw; clear hSw; go_simp; try with_reducible rfl)
            try simp only [List.getElem_toArray]
            try simp only [List.getElem_cons_succ]
            try simp only [List.getElem_cons_zero]
            try simp only [Act.put]
            try simp only [List.setIfInBounds_toArray]
            try simp only [List.set_cons_succ]
            try simp only [List.set_cons_zero]
            refine wpAnyH_ready (rs := [12]) (by kernel_rfl) (by simp) ?_
            refine AllReadyH.cons rfl (fun K hK => ?_) (AllReadyH.nil)
            rw [if_pos (by rfl)]
            refine wp_alloc_any zeroCt rfl ?_
            intro xp u2 x0 hb xl xt
            have xW : wr.heap.size ≤ xp := Nat.le_trans hC.size xl
            have hb12 := hb
            replace hC := hC.trans (hb.mono hC.size)
            refine hK.out _ _ ⟨hHeld.1.below hb, hHeld.2.1.below hb, hHeld.2.2.below hb⟩ (fun hHeld => ?_)
            clear hK K hb
            try simp only [List.getElem_toArray]
            try simp only [List.getElem_cons_succ]
            try simp only [List.getElem_cons_zero]
            try simp only [Act.put]
            try simp only [List.setIfInBounds_toArray]
            try simp only [List.set_cons_succ]
            try simp only [List.set_cons_zero]
            refine wpAnyH_take (i := 13) (v := ?v5) rfl (by kernel_rfl) (by kernel_rfl) (by kernel_rfl) (fun _ _ _ h => h) (Or.inl ⟨by rfl, ?hy5⟩) hHeld ?rest5
            case hy5 => (intro w hSw; clear hSw; go_simp; try with_reducible rfl)
            try simp only [List.getElem_toArray]
            try simp only [List.getElem_cons_succ]
            try simp only [List.getElem_cons_zero]
            try simp only [Act.put]
            try simp only [List.setIfInBounds_toArray]
            try simp only [List.set_cons_succ]
            try simp only [List.set_cons_zero]
            refine wpAnyH_ready (rs := [14]) (by kernel_rfl) (by simp) ?_
            refine AllReadyH.cons rfl (fun K hK => ?_) (AllReadyH.nil)
            rw [if_pos (by rfl)]
            refine wp_store_all 25 _ _ rfl (cells := mbc C2) x0 rfl rfl sizeCt rfl (mbc_one _) ?_
            intro u3 hn hk
            have rl3 := (rl.below (hb12.trans (hk.below1 xl hb12.size))).mono sC
            have hCe := hC.trans (hk.below1 xW hC.size)
            refine hK.out _ _ ⟨hHeld.1.kp1 hk (by omega), hHeld.2.1.kp1 hk (by omega), hHeld.2.2.kp1 hk (by omega)⟩ (fun hHeld => ?_)
            clear hK K hk
            try simp only [List.getElem_toArray]
            try simp only [List.getElem_cons_succ]
            try simp only [List.getElem_cons_zero]
            try simp only [Act.put]
            try simp only [List.setIfInBounds_toArray]
            try simp only [List.set_cons_succ]
            try simp only [List.set_cons_zero]
            refine wpAnyH_take (i := 15) (v := ?v6) rfl (by kernel_rfl) (by kernel_rfl) (by kernel_rfl) (fun _ _ _ h => h) (Or.inl ⟨by rfl, ?hy6⟩) hHeld ?rest6
            case hy6 => (intro w hSw; clear hSw; go_simp; try with_reducible rfl)
            try simp only [List.getElem_toArray]
            try simp only [List.getElem_cons_succ]
            try simp only [List.getElem_cons_zero]
            try simp only [Act.put]
            try simp only [List.setIfInBounds_toArray]
            try simp only [List.set_cons_succ]
            try simp only [List.set_cons_zero]
            refine wpAnyH_done (by kernel_rfl) ?_ _
            go_wp2_with fail
            go_meet
            exact ⟨ra, rk, xp, rfl, rfl, rfl, rl3, hn, xW, hCe⟩
          · rw [if_pos (by rfl)]
            refine wp_alloc_any zeroCt rfl ?_
            intro xp u2 x0 hb xl xt
            have xW : wr.heap.size ≤ xp := Nat.le_trans hC.size xl
            replace hC := hC.trans (hb.mono hC.size)
            replace kl := kl.below hb
            refine hK.out _ _ ⟨hHeld.1.below hb, hHeld.2.1.below hb, hHeld.2.2.below hb⟩ (fun hHeld => ?_)
            clear hK K hb
            try simp only [List.getElem_toArray]
            try simp only [List.getElem_cons_succ]
            try simp only [List.getElem_cons_zero]
            try simp only [Act.put]
            try simp only [List.setIfInBounds_toArray]
            try simp only [List.set_cons_succ]
            try simp only [List.set_cons_zero]
            refine wpAnyH_ready (rs := [7]) (by kernel_rfl) (by simp) ?_
            refine AllReadyH.cons rfl (fun K hK => ?_) (AllReadyH.nil)
            go_simp
            go_wp2_with (refine (pT _ kl).mono ?_; rintro r u1 ⟨⟨ra, rk, rfl, rl⟩, hb⟩)
            have hCc := hC.trans (hb.mono hC.size)
            have sC := hC.size
            replace x0 := x0.below hb
            refine hK.out _ _ ⟨hHeld.1.below hb, hHeld.2.1.below hb, hHeld.2.2.below hb⟩ (fun hHeld => ?_)
            clear hK K hb
            replace hC := hCc
            clear hCc
            refine wpAnyH_take (i := 8) (v := ?v7) rfl (by kernel_rfl) (by kernel_rfl) (by kernel_rfl) (fun _ _ _ h => h) (Or.inl ⟨by rfl, ?hy7⟩) hHeld ?rest7
            case hy7 => (intro w hSw; clear hSw; go_simp; try with_reducible rfl)
            try simp only [List.getElem_toArray]
            try simp only [List.getElem_cons_succ]
            try simp only [List.getElem_cons_zero]
            try simp only [Act.put]
            try simp only [List.setIfInBounds_toArray]
            try simp only [List.set_cons_succ]
            try simp only [List.set_cons_zero]
            refine wpAnyH_take (i := 9) (v := ?v8) rfl (by kernel_rfl) (by kernel_rfl) (by kernel_rfl) (fun _ _ _ h => h) (Or.inl ⟨by rfl, ?hy8⟩) hHeld ?rest8
            case hy8 => (intro w hSw; clear hSw; go_simp; try with_reducible rfl)
            try simp only [List.getElem_toArray]
            try simp only [List.getElem_cons_succ]
            try simp only [List.getElem_cons_zero]
            try simp only [Act.put]
            try simp only [List.setIfInBounds_toArray]
            try simp only [List.set_cons_succ]
            try simp only [List.set_cons_zero]
            refine wpAnyH_take (i := 10) (v := ?v9) rfl (by kernel_rfl) (by kernel_rfl) (by kernel_rfl) (fun _ _ _ h => h) (Or.inl ⟨by rfl, ?hy9⟩) hHeld ?rest9
            case hy9 => (intro w hSw; clear hSw; go_simp; try with_reducible rfl)
            try simp only [List.getElem_toArray]
            try simp only [List.getElem_cons_succ]
            try simp only [List.getElem_cons_zero]
            try simp only [Act.put]
            try simp only [List.setIfInBounds_toArray]
            try simp only [List.set_cons_succ]
            try simp only [List.set_cons_zero]
            refine wpAnyH_take (i := 11) (v := ?v10) rfl (by kernel_rfl) (by kernel_rfl) (by kernel_rfl) (fun _ _ _ h => h) (Or.inl ⟨by rfl, ?hy10⟩) hHeld ?rest10
            case hy10 => (intro w hSw; clear hSw; go_simp; try with_reducible rfl)
            try simp only [List.getElem_toArray]
            try simp only [List.getElem_cons_succ]
            try simp only [List.getElem_cons_zero]
            try simp only [Act.put]
            try simp only [List.setIfInBounds_toArray]
            try simp only [List.set_cons_succ]
            try simp only [List.set_cons_zero]
            refine wpAnyH_take (i := 13) (v := ?v11) rfl (by kernel_rfl) (by kernel_rfl) (by kernel_rfl) (fun _ _ _ h => h) (Or.inl ⟨by rfl, ?hy11⟩) hHeld ?rest11
            case hy11 => (intro w hSw; clear hSw; go_simp; try with_reducible rfl)
            try simp only [List.getElem_toArray]
            try simp only [List.getElem_cons_succ]
            try simp only [List.getElem_cons_zero]
            try simp only [Act.put]
            try simp only [List.setIfInBounds_toArray]
            try simp only [List.set_cons_succ]
            try simp only [List.set_cons_zero]
            refine wpAnyH_ready (rs := [14]) (by kernel_rfl) (by simp) ?_
            refine AllReadyH.cons rfl (fun K hK => ?_) (AllReadyH.nil)
            rw [if_pos (by rfl)]
            refine wp_store_all 25 _ _ rfl (cells := mbc C2) x0 rfl rfl sizeCt rfl (mbc_one _) ?_
            intro u3 hn hk
            have rl3 := (rl.kp hk (fun k hm => by rw [List.mem_singleton.1 hm]; exact xt)).mono sC
            have hCe := hC.trans (hk.below1 xW hC.size)
            refine hK.out _ _ ⟨hHeld.1.kp1 hk (by omega), hHeld.2.1.kp1 hk (by omega), hHeld.2.2.kp1 hk (by omega)⟩ (fun hHeld => ?_)
            clear hK K hk
            try simp only [List.getElem_toArray]
            try simp only [List.getElem_cons_succ]
            try simp only [List.getElem_cons_zero]
            try simp only [Act.put]
            try simp only [List.setIfInBounds_toArray]
            try simp only [List.set_cons_succ]
            try simp only [List.set_cons_zero]
            refine wpAnyH_take (i := 15) (v := ?v12) rfl (by kernel_rfl) (by kernel_rfl) (by kernel_rfl) (fun _ _ _ h => h) (Or.inl ⟨by rfl, ?hy12⟩) hHeld ?rest12
            case hy12 => (intro w hSw; clear hSw; go_simp; try with_reducible rfl)
            try simp only [List.getElem_toArray]
            try simp only [List.getElem_cons_succ]
            try simp only [List.getElem_cons_zero]
            try simp only [Act.put]
            try simp only [List.setIfInBounds_toArray]
            try simp only [List.set_cons_succ]
            try simp only [List.set_cons_zero]
            refine wpAnyH_done (by kernel_rfl) ?_ _
            go_wp2_with fail
            go_meet
            exact ⟨ra, rk, xp, rfl, rfl, rfl, rl3, hn, xW, hCe⟩
        case rest =>
          obtain ⟨ra, rk, p10, rfl, rfl, rfl, rl, b10, hp10, hC⟩ := hcut
          rename World => U
          have s6 := b6.lt
          have s7 := b7.lt
          have sb := hbl
          replace b2 := b2.below hC
          replace b6 := b6.below hC
          replace b7 := b7.below hC
          replace at0 := at0.below hC
          replace kl := kl.below hC
          replace hB := hB.trans (hC.mono hB.size)
          have sw := hC.size
          clear hC pT
          cases tb with
          | true =>
            obtain ⟨d, hd, hd8, hmd, hrd⟩ := (takesB_iff c m x).1 HTB.out
            have eL : L2 = takeL Y x := by rw [← HL2.out, takeK, if_pos HTB.out]
            have eC : C2 = takeC c x := by rw [← HC2.out, takeKC, if_pos HTB.out]
            have HI2 : Hid (InvK C2 L2 (j + 1)) := by rw [eL, eC]; exact HI.out.take x HTB.out
            have hset : (mbc c).setIfInBounds d (.int .u32 ((c d : Int) + 1)) = mbc C2 := by
              rw [eC, takeC, hd, Int.toNat_natCast, hrd, ← mbc_put c d (c d + 1) hd8]; rfl
            have hCd : C2 d = x.rd := by rw [eC]; simp [takeC, put8, hd]
            have hneq := neqCt C2 c false (by rw [eC]; exact takeC_ne x HTB.out)
            have hM : isM m (d : Int) = true := (isM_nat m d).2 ((mem_lst m d).2 ⟨hd8, hmd⟩)
            have hcd := HI.out.le d
            have q0 : U.cell? ⟨b, o + j * 38, none⟩ = some (.int .i64 (d : Int)) := by have := at0.2 0 _ rfl; rw [← hd]; simpa using this
            have q1 := b7.cell d _ (mbc_get c d hd8)
            have d0 : (d : Int) < 8 := by omega
            have d1 : (0 : Int) ≤ (d : Int) := by omega
            have d2 := and7 d hd8
            have hx32 := x.lt
            clear eL eC HL2 HC2 HTB hmd
            go_upto_region 9 with (refine store_one rfl 23 _ _ rfl (off := d) (.int .u32 ((c d : Int) + 1)) b7 rfl rfl rfl rfl sizeU32 (by rw [mbc_size]; omega) ?_; intro U1 b71 k7; rw [hset] at b71)
            try simp only [Act.put]
            replace b2 := b2.kp1 k7 (by omega)
            replace b6 := b6.kp1 k7 (by omega)
            replace b10 := b10.kp1 k7 (by omega)
            replace at0 := at0.kp1 k7 (by omega)
            replace rl := rl.kp k7 (fun k hm => by rw [List.mem_singleton.1 hm]; exact s7)
            replace hB := hB.trans (k7.below1 (by omega) hB.size)
            have b7' := b71
            clear b7 b71 k7 q0 q1 hset
            have b7 := b7'
            clear b7'
            have lm := b2.regrown
            have q0 : ∀ d' os, (grow (redrawn U1 d') os).cell? ⟨b, o + j * 38, none⟩ = some (.int .i64 (d : Int)) := cell_regrown (by have := at0.2 0 _ rfl; rw [← hd]; simpa using this)
            have q1 : ∀ d' os, (grow (redrawn U1 d') os).cell? ⟨b, o + j * 38 + 1, none⟩ = some (.int .u32 (x.rd : Int)) := cell_regrown (at0.2 1 _ rfl)
            have q2 : ∀ d' os, (grow (redrawn U1 d') os).cell? ⟨(w.heap.size + 1 + 1 + 1), d, none⟩ = some (.int .u32 (x.rd : Int)) := cell_regrown (by have := b7.cell d _ (mbc_get C2 d hd8); rw [hCd] at this; exact this)
            have g0 : ((x.rd : Int) != (x.rd : Int)) = false := by simp
            have pI := is_ok m (d : Int)
            rw [hM] at pI
            have r0 : ∀ d' os, Calls Try.prog 18 #[.agg (mbc m), .int .i64 (d : Int)] (grow (redrawn U1 d') os) fun e w'' => e = .returned (.bool true) ∧ ∃ p : Regrown, w'' = grow (redrawn U1 p.d) p.os := fun d' os => Calls.regrown_of (pI _)
            refine wp_region_quiet_below (by kernel_rfl) (by kernel_rfl) ?_
            repeat (first
              | (go_big_quiet_want; refine quiet_load rfl rfl lm Try.underlying26 rfl sizeMb ?_; simp only [Act.put, List.setIfInBounds_toArray, List.set_cons_zero, List.set_cons_succ]; go_big_quiet_on)
              | go_big_quiet_step (first | with_reducible exact r0 _ _))
            refine wpQuiet_nil ?_
            intro _ hw'
            obtain ⟨⟨dq, osq⟩, hw''⟩ := hw'
            have hb := below_regrown U1 dq osq
            subst hw''
            generalize grow (redrawn U1 dq) osq = U2 at hb ⊢
            replace b2 := b2.below hb
            replace b6 := b6.below hb
            replace b7 := b7.below hb
            replace b10 := b10.below hb
            replace at0 := at0.below hb
            replace rl := rl.below hb
            replace hB := hB.trans (hb.mono hB.size)
            clear hb
            clear q0 q1 q2 g0 r0 lm hCd
            go_upto_region 11 with fail
            try simp only [Act.put]
            have lm := b2.regrown
            have l10 := b10.regrown
            have l6 := b6.regrown
            have q0 : ∀ d' os, (grow (redrawn U2 d') os).cell? ⟨b, o + j * 38, none⟩ = some (.int .i64 (d : Int)) := cell_regrown (by have := at0.2 0 _ rfl; rw [← hd]; simpa using this)
            have r0 : ∀ d' os, Calls Try.prog 18 #[.agg (mbc m), .int .i64 (d : Int)] (grow (redrawn U2 d') os) fun e w'' => e = .returned (.bool true) ∧ ∃ p : Regrown, w'' = grow (redrawn U2 p.d) p.os := fun d' os => Calls.regrown_of (pI _)
            clear pI hd hM
            replace hneq : ∀ w, (binOp .neq 25 (.agg (mbc C2)) (.agg (mbc c))).run Try.prog w = .ok (.bool true) w := hneq
            refine wp_region_quiet_below (by kernel_rfl) (by kernel_rfl) ?_
            repeat (first
              | (go_big_quiet_want; refine quiet_load rfl rfl lm Try.underlying26 rfl sizeMb ?_; simp only [Act.put, List.setIfInBounds_toArray, List.set_cons_zero, List.set_cons_succ]; go_big_quiet_on)
              | (go_big_quiet_want; refine quiet_load rfl rfl l10 Try.underlying25 rfl sizeCt ?_; simp only [Act.put, List.setIfInBounds_toArray, List.set_cons_zero, List.set_cons_succ]; go_big_quiet_on)
              | (go_big_quiet_want; refine quiet_load rfl rfl l6 Try.underlying25 rfl sizeCt ?_; simp only [Act.put, List.setIfInBounds_toArray, List.set_cons_zero, List.set_cons_succ]; go_big_quiet_on)
              | go_big_quiet_step (first | with_reducible exact r0 _ _))
            refine wpQuiet_nil ?_
            intro _ hw'
            obtain ⟨⟨dq, osq⟩, hw''⟩ := hw'
            have hb := below_regrown U2 dq osq
            subst hw''
            generalize grow (redrawn U2 dq) osq = U3 at hb ⊢
            replace b2 := b2.below hb
            replace b6 := b6.below hb
            replace b7 := b7.below hb
            replace b10 := b10.below hb
            replace rl := rl.below hb
            replace hB := hB.trans (hb.mono hB.size)
            clear hb
            clear q0 r0 lm l10 l6 hneq at0 d0 d1 d2
            go_upto_region 13 with fail
            try simp only [Act.put]
            replace hB := hB.drew
            replace b6 := b6.drew
            replace b2 := b2.drew
            replace b7 := b7.drew
            have rl' : Li Kt.vals wr.heap.size ra L2 (U3.drew) := rl.below (Below.refl _ _).drew
            have s10 := b10.lt
            refine wp_region_held_drew (S := fun w' => Blk p10 (mbc C2) 25 w') (by kernel_rfl) b10.drew (fun hHeld => ?_)
            refine wpAnyH_take (i := 0) (v := ?v20) rfl (by kernel_rfl) (by kernel_rfl) (by kernel_rfl) (fun _ _ _ h => h) (Or.inl ⟨by rfl, ?hy20⟩) hHeld ?rest20
            case hy20 => (intro w hSw; clear hSw; go_simp; try with_reducible rfl)
            try simp only [List.getElem_toArray]
            try simp only [List.getElem_cons_succ]
            try simp only [List.getElem_cons_zero]
            try simp only [Act.put]
            try simp only [List.setIfInBounds_toArray]
            try simp only [List.set_cons_succ]
            try simp only [List.set_cons_zero]
            refine' wpAnyH_take (i := 1) (v := _) rfl (by kernel_rfl) (by kernel_rfl) (by kernel_rfl) (fun _ _ _ h => h) (yieldsIf_load_mid (by rfl) _ _ rfl p10 0 rfl (mbc C2).toList _ ?hS21 Try.underlying25 rfl sizeCt) hHeld ?rest21
            case hS21 => exact fun w h => h.whole
            try simp only [List.getElem_toArray]
            try simp only [List.getElem_cons_succ]
            try simp only [List.getElem_cons_zero]
            try simp only [Act.put]
            try simp only [List.setIfInBounds_toArray]
            try simp only [List.set_cons_succ]
            try simp only [List.set_cons_zero]
            refine wpAnyH_take (i := 2) (v := ?v22) rfl (by kernel_rfl) (by kernel_rfl) (by kernel_rfl) (fun _ _ _ h => h) (Or.inl ⟨by rfl, ?hy22⟩) hHeld ?rest22
            case hy22 => (intro w hSw; clear hSw; go_simp; try with_reducible rfl)
            try simp only [List.getElem_toArray]
            try simp only [List.getElem_cons_succ]
            try simp only [List.getElem_cons_zero]
            try simp only [Act.put]
            try simp only [List.setIfInBounds_toArray]
            try simp only [List.set_cons_succ]
            try simp only [List.set_cons_zero]
            refine wpAnyH_ready (rs := [3]) (by kernel_rfl) (by simp) ?_
            refine AllReadyH.cons rfl (fun K hK => ?_) (AllReadyH.nil)
            rw [if_pos (by rfl)]
            refine wp_store_all 25 _ _ rfl (cells := mbc C2) b6 rfl rfl sizeCt rfl (mbc_one _) ?_
            intro u hn hk
            have rl9 : Li Kt.vals 0 ra L2 u := (rl'.kp hk (fun k hm => by rw [List.mem_singleton.1 hm]; exact s6)).mono (Nat.zero_le _)
            replace b2 := b2.kp1 hk (by omega)
            replace b7 := b7.kp1 hk (by omega)
            replace hB := hB.trans (hk.below1 (by omega) hB.size)
            refine hK.out _ _ (hHeld.kp1 hk (by omega)) (fun hHeld => ?_)
            clear hK K hk
            try simp only [List.getElem_toArray]
            try simp only [List.getElem_cons_succ]
            try simp only [List.getElem_cons_zero]
            try simp only [Act.put]
            try simp only [List.setIfInBounds_toArray]
            try simp only [List.set_cons_succ]
            try simp only [List.set_cons_zero]
            refine wpAnyH_done (by kernel_rfl) ?_ _
            go_wp2_with fail
            exact ⟨⟨j + 1, L2, C2, ra, yn2, rk, by omega, by omega, by go_num, rfl, HN2, HI2, rl9, b2, hn, b7, hB⟩, by simp [intOf]; omega⟩
          | false =>
            have eL : L2 = Y := by rw [← HL2.out, takeK, HTB.out]; rfl
            have eC : C2 = c := by rw [← HC2.out, takeKC, HTB.out]; rfl
            subst eL eC
            obtain rfl : yn2 = yn := HN2.out.symm.trans HNy.out
            have HI2 : Hid (InvK C2 L2 (j + 1)) := HI.out.more
            obtain ⟨v, hv⟩ : ∃ v, isM m x.fr = v := ⟨_, rfl⟩
            have pI := is_ok m x.fr
            rw [hv] at pI
            have hneq : ∀ w, (binOp .neq 25 (.agg (mbc C2)) (.agg (mbc C2))).run Try.prog w = .ok (.bool false) w := neqCt C2 C2 true (mbSame_self C2)
            clear HL2 HC2 HTB hv
            go_upto_region 11 with fail
            try simp only [Act.put]
            have lm := b2.regrown
            have l10 := b10.regrown
            have l6 := b6.regrown
            have q0 : ∀ d' os, (grow (redrawn U d') os).cell? ⟨b, o + j * 38, none⟩ = some (.int .i64 x.fr) := cell_regrown (by have := at0.2 0 _ rfl; simpa using this)
            have r0 : ∀ d' os, Calls Try.prog 18 #[.agg (mbc m), .int .i64 x.fr] (grow (redrawn U d') os) fun e w'' => e = .returned (.bool v) ∧ ∃ p : Regrown, w'' = grow (redrawn U p.d) p.os := fun d' os => Calls.regrown_of (pI _)
            have r1 : ∀ d' os, Calls Try.prog 15 #[.slice ra yn2 rk, .slice ka yn2 kc] (grow (redrawn U d') os) fun e w'' => e = .returned (.bool true) ∧ ∃ p : Regrown, w'' = grow (redrawn U p.d) p.os := fun d' os => Calls.regrown_of (by have hs := rsame_ok L2 ra ka rk kc (by have := HI.out.len; omega) _ ((rl.mono (Nat.zero_le _)).below (below_regrown U d' os)) (kl.below (below_regrown U d' os)); rw [HN2.out] at hs; exact hs)
            clear pI
            cases v with
            | false =>
              refine wp_region_quiet_below (by kernel_rfl) (by kernel_rfl) ?_
              repeat (first
                | (go_big_quiet_want; refine quiet_load rfl rfl lm Try.underlying26 rfl sizeMb ?_; simp only [Act.put, List.setIfInBounds_toArray, List.set_cons_zero, List.set_cons_succ]; go_big_quiet_on)
                | (go_big_quiet_want; refine quiet_load rfl rfl l10 Try.underlying25 rfl sizeCt ?_; simp only [Act.put, List.setIfInBounds_toArray, List.set_cons_zero, List.set_cons_succ]; go_big_quiet_on)
                | (go_big_quiet_want; refine quiet_load rfl rfl l6 Try.underlying25 rfl sizeCt ?_; simp only [Act.put, List.setIfInBounds_toArray, List.set_cons_zero, List.set_cons_succ]; go_big_quiet_on)
                | go_big_quiet_step (first | with_reducible exact r0 _ _ | with_reducible exact r1 _ _))
              refine wpQuiet_nil ?_
              intro _ hw'
              obtain ⟨⟨dq, osq⟩, hw''⟩ := hw'
              have hb := below_regrown U dq osq
              subst hw''
              generalize grow (redrawn U dq) osq = U3 at hb ⊢
              replace b2 := b2.below hb
              replace b6 := b6.below hb
              replace b7 := b7.below hb
              replace b10 := b10.below hb
              replace rl := rl.below hb
              replace hB := hB.trans (hb.mono hB.size)
              clear hb
              clear q0 r0 r1 lm l10 l6 hneq at0
              go_upto_region 13 with fail
              try simp only [Act.put]
              replace hB := hB.drew
              replace b6 := b6.drew
              replace b2 := b2.drew
              replace b7 := b7.drew
              have rl' : Li Kt.vals wr.heap.size ra L2 (U3.drew) := rl.below (Below.refl _ _).drew
              have s10 := b10.lt
              refine wp_region_held_drew (S := fun w' => Blk p10 (mbc C2) 25 w') (by kernel_rfl) b10.drew (fun hHeld => ?_)
              refine wpAnyH_take (i := 0) (v := ?v23) rfl (by kernel_rfl) (by kernel_rfl) (by kernel_rfl) (fun _ _ _ h => h) (Or.inl ⟨by rfl, ?hy23⟩) hHeld ?rest23
              case hy23 => (intro w hSw; clear hSw; go_simp; try with_reducible rfl)
              try simp only [List.getElem_toArray]
              try simp only [List.getElem_cons_succ]
              try simp only [List.getElem_cons_zero]
              try simp only [Act.put]
              try simp only [List.setIfInBounds_toArray]
              try simp only [List.set_cons_succ]
              try simp only [List.set_cons_zero]
              refine' wpAnyH_take (i := 1) (v := _) rfl (by kernel_rfl) (by kernel_rfl) (by kernel_rfl) (fun _ _ _ h => h) (yieldsIf_load_mid (by rfl) _ _ rfl p10 0 rfl (mbc C2).toList _ ?hS24 Try.underlying25 rfl sizeCt) hHeld ?rest24
              case hS24 => exact fun w h => h.whole
              try simp only [List.getElem_toArray]
              try simp only [List.getElem_cons_succ]
              try simp only [List.getElem_cons_zero]
              try simp only [Act.put]
              try simp only [List.setIfInBounds_toArray]
              try simp only [List.set_cons_succ]
              try simp only [List.set_cons_zero]
              refine wpAnyH_take (i := 2) (v := ?v25) rfl (by kernel_rfl) (by kernel_rfl) (by kernel_rfl) (fun _ _ _ h => h) (Or.inl ⟨by rfl, ?hy25⟩) hHeld ?rest25
              case hy25 => (intro w hSw; clear hSw; go_simp; try with_reducible rfl)
              try simp only [List.getElem_toArray]
              try simp only [List.getElem_cons_succ]
              try simp only [List.getElem_cons_zero]
              try simp only [Act.put]
              try simp only [List.setIfInBounds_toArray]
              try simp only [List.set_cons_succ]
              try simp only [List.set_cons_zero]
              refine wpAnyH_ready (rs := [3]) (by kernel_rfl) (by simp) ?_
              refine AllReadyH.cons rfl (fun K hK => ?_) (AllReadyH.nil)
              rw [if_pos (by rfl)]
              refine wp_store_all 25 _ _ rfl (cells := mbc C2) b6 rfl rfl sizeCt rfl (mbc_one _) ?_
              intro u hn hk
              have rl9 : Li Kt.vals 0 ra L2 u := (rl'.kp hk (fun k hm => by rw [List.mem_singleton.1 hm]; exact s6)).mono (Nat.zero_le _)
              replace b2 := b2.kp1 hk (by omega)
              replace b7 := b7.kp1 hk (by omega)
              replace hB := hB.trans (hk.below1 (by omega) hB.size)
              refine hK.out _ _ (hHeld.kp1 hk (by omega)) (fun hHeld => ?_)
              clear hK K hk
              try simp only [List.getElem_toArray]
              try simp only [List.getElem_cons_succ]
              try simp only [List.getElem_cons_zero]
              try simp only [Act.put]
              try simp only [List.setIfInBounds_toArray]
              try simp only [List.set_cons_succ]
              try simp only [List.set_cons_zero]
              refine wpAnyH_done (by kernel_rfl) ?_ _
              go_wp2_with fail
              exact ⟨⟨j + 1, L2, C2, ra, yn2, rk, by omega, by omega, by go_num, rfl, HN2, HI2, rl9, b2, hn, b7, hB⟩, by simp [intOf]; omega⟩
            | true =>
              refine wp_region_quiet_below (by kernel_rfl) (by kernel_rfl) ?_
              repeat (first
                | (go_big_quiet_want; refine quiet_load rfl rfl lm Try.underlying26 rfl sizeMb ?_; simp only [Act.put, List.setIfInBounds_toArray, List.set_cons_zero, List.set_cons_succ]; go_big_quiet_on)
                | (go_big_quiet_want; refine quiet_load rfl rfl l10 Try.underlying25 rfl sizeCt ?_; simp only [Act.put, List.setIfInBounds_toArray, List.set_cons_zero, List.set_cons_succ]; go_big_quiet_on)
                | (go_big_quiet_want; refine quiet_load rfl rfl l6 Try.underlying25 rfl sizeCt ?_; simp only [Act.put, List.setIfInBounds_toArray, List.set_cons_zero, List.set_cons_succ]; go_big_quiet_on)
                | go_big_quiet_step (first | with_reducible exact r0 _ _ | with_reducible exact r1 _ _))
              refine wpQuiet_nil ?_
              intro _ hw'
              obtain ⟨⟨dq, osq⟩, hw''⟩ := hw'
              have hb := below_regrown U dq osq
              subst hw''
              generalize grow (redrawn U dq) osq = U3 at hb ⊢
              replace b2 := b2.below hb
              replace b6 := b6.below hb
              replace b7 := b7.below hb
              replace b10 := b10.below hb
              replace rl := rl.below hb
              replace hB := hB.trans (hb.mono hB.size)
              clear hb
              clear q0 r0 r1 lm l10 l6 hneq at0
              go_upto_region 13 with fail
              try simp only [Act.put]
              replace hB := hB.drew
              replace b6 := b6.drew
              replace b2 := b2.drew
              replace b7 := b7.drew
              have rl' : Li Kt.vals wr.heap.size ra L2 (U3.drew) := rl.below (Below.refl _ _).drew
              have s10 := b10.lt
              refine wp_region_held_drew (S := fun w' => Blk p10 (mbc C2) 25 w') (by kernel_rfl) b10.drew (fun hHeld => ?_)
              refine wpAnyH_take (i := 0) (v := ?v26) rfl (by kernel_rfl) (by kernel_rfl) (by kernel_rfl) (fun _ _ _ h => h) (Or.inl ⟨by rfl, ?hy26⟩) hHeld ?rest26
              case hy26 => (intro w hSw; clear hSw; go_simp; try with_reducible rfl)
              try simp only [List.getElem_toArray]
              try simp only [List.getElem_cons_succ]
              try simp only [List.getElem_cons_zero]
              try simp only [Act.put]
              try simp only [List.setIfInBounds_toArray]
              try simp only [List.set_cons_succ]
              try simp only [List.set_cons_zero]
              refine' wpAnyH_take (i := 1) (v := _) rfl (by kernel_rfl) (by kernel_rfl) (by kernel_rfl) (fun _ _ _ h => h) (yieldsIf_load_mid (by rfl) _ _ rfl p10 0 rfl (mbc C2).toList _ ?hS27 Try.underlying25 rfl sizeCt) hHeld ?rest27
              case hS27 => exact fun w h => h.whole
              try simp only [List.getElem_toArray]
              try simp only [List.getElem_cons_succ]
              try simp only [List.getElem_cons_zero]
              try simp only [Act.put]
              try simp only [List.setIfInBounds_toArray]
              try simp only [List.set_cons_succ]
              try simp only [List.set_cons_zero]
              refine wpAnyH_take (i := 2) (v := ?v28) rfl (by kernel_rfl) (by kernel_rfl) (by kernel_rfl) (fun _ _ _ h => h) (Or.inl ⟨by rfl, ?hy28⟩) hHeld ?rest28
              case hy28 => (intro w hSw; clear hSw; go_simp; try with_reducible rfl)
              try simp only [List.getElem_toArray]
              try simp only [List.getElem_cons_succ]
              try simp only [List.getElem_cons_zero]
              try simp only [Act.put]
              try simp only [List.setIfInBounds_toArray]
              try simp only [List.set_cons_succ]
              try simp only [List.set_cons_zero]
              refine wpAnyH_ready (rs := [3]) (by kernel_rfl) (by simp) ?_
              refine AllReadyH.cons rfl (fun K hK => ?_) (AllReadyH.nil)
              rw [if_pos (by rfl)]
              refine wp_store_all 25 _ _ rfl (cells := mbc C2) b6 rfl rfl sizeCt rfl (mbc_one _) ?_
              intro u hn hk
              have rl9 : Li Kt.vals 0 ra L2 u := (rl'.kp hk (fun k hm => by rw [List.mem_singleton.1 hm]; exact s6)).mono (Nat.zero_le _)
              replace b2 := b2.kp1 hk (by omega)
              replace b7 := b7.kp1 hk (by omega)
              replace hB := hB.trans (hk.below1 (by omega) hB.size)
              refine hK.out _ _ (hHeld.kp1 hk (by omega)) (fun hHeld => ?_)
              clear hK K hk
              try simp only [List.getElem_toArray]
              try simp only [List.getElem_cons_succ]
              try simp only [List.getElem_cons_zero]
              try simp only [Act.put]
              try simp only [List.setIfInBounds_toArray]
              try simp only [List.set_cons_succ]
              try simp only [List.set_cons_zero]
              refine wpAnyH_done (by kernel_rfl) ?_ _
              go_wp2_with fail
              exact ⟨⟨j + 1, L2, C2, ra, yn2, rk, by omega, by omega, by go_num, rfl, HN2, HI2, rl9, b2, hn, b7, hB⟩, by simp [intOf]; omega⟩
      · have j2 : ¬ (j : Int) < 200 := by omega
        clear HNN
        have e1 := neqCt c c true (mbSame_self c)
        go_wp2_with fail
        refine (fixed_ok _).mono ?_
        rintro r w1 ⟨rfl, hb⟩
        replace kl := kl.below hb
        replace b6 := b6.below hb
        replace b7 := b7.below hb
        replace hB := hB.trans (hb.mono hB.size)
        clear hb b2
        go_wp2_with (first | refine load_want rfl 25 _ rfl b6 rfl Try.underlying25 rfl sizeCt ?_ | refine load_want rfl 25 _ rfl b7 rfl Try.underlying25 rfl sizeCt ?_)
        clear b7 e1
        go_loopw [12, 13] (fun hv dv wx => ∃ (h d : Nat), d ≤ 8 ∧ dv = .int .i64 d ∧ hv = .int .i64 h ∧ Hid (cnt Y d 1 = h) ∧ Li Kt.vals 0 ka Y wx ∧ Blk (w.heap.size + 1 + 1) (mbc c) 25 wx ∧ Below w.heap.size w wx) (fun _ dv _ => 8 - (intOf dv).toNat)
        case atStart => exact ⟨0, 0, by omega, rfl, rfl, cnt_first HI.out, kl, b6, hB⟩
        case round =>
          clear kl b6 hB
          obtain ⟨h, d, hd, rfl, rfl, HC, kl, b6, hB⟩ := hrel
          rename World => wx
          have hh : h ≤ 200 := by have := cnt_le Y d 1; rw [HC.out] at this; have := HI.out.len; omega
          by_cases hd8 : d < 8
          · have d0 : (d : Int) < 8 := by omega
            have d1 : (0 : Int) ≤ (d : Int) := by omega
            have hcd := HI.out.le d
            go_wp2_with fail
            go_loopw [12, 14] (fun hv rv wy => ∃ (h r : Nat), 1 ≤ r ∧ r ≤ c d + 1 ∧ rv = .int .u32 r ∧ hv = .int .i64 h ∧ Hid (cnt Y d r = h) ∧ Li Kt.vals 0 ka Y wy ∧ Blk (w.heap.size + 1 + 1) (mbc c) 25 wy ∧ Below w.heap.size w wy) (fun _ rv _ => c d + 1 - (intOf rv).toNat)
            case atStart => exact ⟨h, 1, by omega, by omega, rfl, rfl, HC, kl, b6, hB⟩
            case round =>
              clear kl b6 hB HC hh
              obtain ⟨h, r, hr1, hr2, rfl, rfl, HC, kl, b6, hB⟩ := hrel
              rename World => wz
              have q1 := b6.cell d _ (mbc_get c d hd8)
              have hh : h ≤ 200 := by have := cnt_le Y d r; rw [HC.out] at this; have := HI.out.len; omega
              by_cases hrc : r ≤ c d
              · have r0 : (r : Int) ≤ (c d : Int) := by omega
                have pG := get_ok Y ka kc (d : Int) r (by have := HI.out.len; omega) wz kl
                rw [HI.out.has d r hd8 hr1 hrc, HNy.out] at pG
                have hst := cnt_step HI.out d r hd8 hr1 hrc
                rw [HC.out] at hst
                generalize gotF (getK (d : Int) r Y) = G at pG
                by_cases h3 : c d < r + 3
                · rw [decide_eq_true h3] at pG
                  rw [if_pos h3] at hst
                  have g3 : (c d : Int) < (r : Int) + 3 := by omega
                  have HC2 : Hid (cnt Y d (r + 1) = h + 1) := hst
                  clear hst HC
                  go_wp2_with fail
                  refine pG.mono ?_
                  rintro e wv ⟨rfl, hb⟩
                  replace kl := kl.below hb
                  replace b6 := b6.below hb
                  replace hB := hB.trans (hb.mono hB.size)
                  clear hb pG q1
                  have hb := below_box wv (.cells (frc G) 34)
                  go_upto_region 24 with (first | refine alloc_zero zeroFr rfl rfl ?_ | refine store_new rfl 34 _ _ rfl (cells := frc G) rfl rfl sizeFr rfl (frc_one _) ?_)
                  try simp only [Act.put]
                  generalize wv.alloc (Obj.cells (frc G) 34) = wu at hb ⊢
                  replace kl := kl.below hb
                  replace b6 := b6.below hb
                  replace hB := hB.trans (hb.mono hB.size)
                  clear hb
                  have q1 := b6.cell d _ (mbc_get c d hd8)
                  go_wp2_with fail
                  exact ⟨⟨h + 1, r + 1, by omega, by omega, by go_num, by go_num, HC2, kl, b6, hB⟩, by simp [intOf]; omega⟩
                · rw [decide_eq_false h3] at pG
                  rw [if_neg h3] at hst
                  have g3 : ¬ (c d : Int) < (r : Int) + 3 := by omega
                  have HC2 : Hid (cnt Y d (r + 1) = h) := hst
                  clear hst HC
                  go_wp2_with fail
                  refine pG.mono ?_
                  rintro e wv ⟨rfl, hb⟩
                  replace kl := kl.below hb
                  replace b6 := b6.below hb
                  replace hB := hB.trans (hb.mono hB.size)
                  clear hb pG q1
                  have hb := below_box wv (.cells (frc G) 34)
                  go_upto_region 24 with (first | refine alloc_zero zeroFr rfl rfl ?_ | refine store_new rfl 34 _ _ rfl (cells := frc G) rfl rfl sizeFr rfl (frc_one _) ?_)
                  try simp only [Act.put]
                  generalize wv.alloc (Obj.cells (frc G) 34) = wu at hb ⊢
                  replace kl := kl.below hb
                  replace b6 := b6.below hb
                  replace hB := hB.trans (hb.mono hB.size)
                  clear hb
                  have q1 := b6.cell d _ (mbc_get c d hd8)
                  go_wp2_with fail
                  exact ⟨⟨h, r + 1, by omega, by omega, by go_num, by go_num, HC2, kl, b6, hB⟩, by simp [intOf]; omega⟩
              · have r0 : ¬ (r : Int) ≤ (c d : Int) := by omega
                obtain rfl : r = c d + 1 := by omega
                have HC2 : Hid (cnt Y (d + 1) 1 = h) := by rw [← HC.out]; exact (cnt_next HI.out d).symm
                clear HC
                go_wp2_with fail
                exact ⟨⟨h, d + 1, by omega, by go_num, rfl, HC2, kl, b6, hB⟩, by simp [intOf]; omega⟩
          · obtain rfl : d = 8 := by omega
            obtain rfl : h = yn := by rw [← HC.out, ← HNy.out]; exact cnt_last HI.out
            clear HC kl b6 HI HNy
            go_wp2_with fail
            go_ret
            exact ⟨rfl, hB⟩
    · have j0 : ¬ (j : Int) < (NN : Int) := by omega
      clear HNN
      have e1 := neqCt c c true (mbSame_self c)
      go_wp2_with fail
      refine (fixed_ok _).mono ?_
      rintro r w1 ⟨rfl, hb⟩
      replace kl := kl.below hb
      replace b6 := b6.below hb
      replace b7 := b7.below hb
      replace hB := hB.trans (hb.mono hB.size)
      clear hb b2
      go_wp2_with (first | refine load_want rfl 25 _ rfl b6 rfl Try.underlying25 rfl sizeCt ?_ | refine load_want rfl 25 _ rfl b7 rfl Try.underlying25 rfl sizeCt ?_)
      clear b7 e1
      go_loopw [12, 13] (fun hv dv wx => ∃ (h d : Nat), d ≤ 8 ∧ dv = .int .i64 d ∧ hv = .int .i64 h ∧ Hid (cnt Y d 1 = h) ∧ Li Kt.vals 0 ka Y wx ∧ Blk (w.heap.size + 1 + 1) (mbc c) 25 wx ∧ Below w.heap.size w wx) (fun _ dv _ => 8 - (intOf dv).toNat)
      case atStart => exact ⟨0, 0, by omega, rfl, rfl, cnt_first HI.out, kl, b6, hB⟩
      case round =>
        clear kl b6 hB
        obtain ⟨h, d, hd, rfl, rfl, HC, kl, b6, hB⟩ := hrel
        rename World => wx
        have hh : h ≤ 200 := by have := cnt_le Y d 1; rw [HC.out] at this; have := HI.out.len; omega
        by_cases hd8 : d < 8
        · have d0 : (d : Int) < 8 := by omega
          have d1 : (0 : Int) ≤ (d : Int) := by omega
          have hcd := HI.out.le d
          go_wp2_with fail
          go_loopw [12, 14] (fun hv rv wy => ∃ (h r : Nat), 1 ≤ r ∧ r ≤ c d + 1 ∧ rv = .int .u32 r ∧ hv = .int .i64 h ∧ Hid (cnt Y d r = h) ∧ Li Kt.vals 0 ka Y wy ∧ Blk (w.heap.size + 1 + 1) (mbc c) 25 wy ∧ Below w.heap.size w wy) (fun _ rv _ => c d + 1 - (intOf rv).toNat)
          case atStart => exact ⟨h, 1, by omega, by omega, rfl, rfl, HC, kl, b6, hB⟩
          case round =>
            clear kl b6 hB HC hh
            obtain ⟨h, r, hr1, hr2, rfl, rfl, HC, kl, b6, hB⟩ := hrel
            rename World => wz
            have q1 := b6.cell d _ (mbc_get c d hd8)
            have hh : h ≤ 200 := by have := cnt_le Y d r; rw [HC.out] at this; have := HI.out.len; omega
            by_cases hrc : r ≤ c d
            · have r0 : (r : Int) ≤ (c d : Int) := by omega
              have pG := get_ok Y ka kc (d : Int) r (by have := HI.out.len; omega) wz kl
              rw [HI.out.has d r hd8 hr1 hrc, HNy.out] at pG
              have hst := cnt_step HI.out d r hd8 hr1 hrc
              rw [HC.out] at hst
              generalize gotF (getK (d : Int) r Y) = G at pG
              by_cases h3 : c d < r + 3
              · rw [decide_eq_true h3] at pG
                rw [if_pos h3] at hst
                have g3 : (c d : Int) < (r : Int) + 3 := by omega
                have HC2 : Hid (cnt Y d (r + 1) = h + 1) := hst
                clear hst HC
                go_wp2_with fail
                refine pG.mono ?_
                rintro e wv ⟨rfl, hb⟩
                replace kl := kl.below hb
                replace b6 := b6.below hb
                replace hB := hB.trans (hb.mono hB.size)
                clear hb pG q1
                have hb := below_box wv (.cells (frc G) 34)
                go_upto_region 24 with (first | refine alloc_zero zeroFr rfl rfl ?_ | refine store_new rfl 34 _ _ rfl (cells := frc G) rfl rfl sizeFr rfl (frc_one _) ?_)
                try simp only [Act.put]
                generalize wv.alloc (Obj.cells (frc G) 34) = wu at hb ⊢
                replace kl := kl.below hb
                replace b6 := b6.below hb
                replace hB := hB.trans (hb.mono hB.size)
                clear hb
                have q1 := b6.cell d _ (mbc_get c d hd8)
                go_wp2_with fail
                exact ⟨⟨h + 1, r + 1, by omega, by omega, by go_num, by go_num, HC2, kl, b6, hB⟩, by simp [intOf]; omega⟩
              · rw [decide_eq_false h3] at pG
                rw [if_neg h3] at hst
                have g3 : ¬ (c d : Int) < (r : Int) + 3 := by omega
                have HC2 : Hid (cnt Y d (r + 1) = h) := hst
                clear hst HC
                go_wp2_with fail
                refine pG.mono ?_
                rintro e wv ⟨rfl, hb⟩
                replace kl := kl.below hb
                replace b6 := b6.below hb
                replace hB := hB.trans (hb.mono hB.size)
                clear hb pG q1
                have hb := below_box wv (.cells (frc G) 34)
                go_upto_region 24 with (first | refine alloc_zero zeroFr rfl rfl ?_ | refine store_new rfl 34 _ _ rfl (cells := frc G) rfl rfl sizeFr rfl (frc_one _) ?_)
                try simp only [Act.put]
                generalize wv.alloc (Obj.cells (frc G) 34) = wu at hb ⊢
                replace kl := kl.below hb
                replace b6 := b6.below hb
                replace hB := hB.trans (hb.mono hB.size)
                clear hb
                have q1 := b6.cell d _ (mbc_get c d hd8)
                go_wp2_with fail
                exact ⟨⟨h, r + 1, by omega, by omega, by go_num, by go_num, HC2, kl, b6, hB⟩, by simp [intOf]; omega⟩
            · have r0 : ¬ (r : Int) ≤ (c d : Int) := by omega
              obtain rfl : r = c d + 1 := by omega
              have HC2 : Hid (cnt Y (d + 1) 1 = h) := by rw [← HC.out]; exact (cnt_next HI.out d).symm
              clear HC
              go_wp2_with fail
              exact ⟨⟨h, d + 1, by omega, by go_num, rfl, HC2, kl, b6, hB⟩, by simp [intOf]; omega⟩
        · obtain rfl : d = 8 := by omega
          obtain rfl : h = yn := by rw [← HC.out, ← HNy.out]; exact cnt_last HI.out
          clear HC kl b6 HI HNy
          go_wp2_with fail
          go_ret
          exact ⟨rfl, hB⟩

set_option maxRecDepth 100000 in
theorem lifted (os : Go.Os) (started : os.Started) (H : Type) (enc : TypeId × Value → H) :
    ReturnsInHanded {} Try.checked os 5 .any (Rows.keptOnceSpec.pre6 enc Try.prog Try.f5 Rows.keptOnceRow.domain false) (Rows.keptOnceSpec.post enc Try.prog Try.f5 false true false false) := by
  refine returnsInHanded_of_change_sized (C := Try.checked) own started (by kernel_rfl) Try.func5
    (ChangeSpec.witness6 (enc := enc) (C := Try.checked) false ⟨#[], #[.agg (mbc noMb), .slice none 0 0], []⟩ 8 (by kernel_rfl) (by kernel_rfl) (by kernel_rfl) (by kernel_rfl)) ?_
  intro W base args ds gs before hval0 hW hcnd hsz0 _
  have hval : ∀ (j : Nat) t v, Try.f5.params[j]? = some t → args[j]? = some v → Value.okWide Try.prog W .any base t v := hval0
  have hsz : (DataW.weightsEach Try.prog (Try.f5.params.toList ++ Rows.keptOnceSpec.plain.varTypes Try.prog) (ds ++ gs)).all (· ≤ reachBytes) = true := hsz0
  have hW' := hW
  obtain ⟨p, q, hA0, hV, rfl, hfz, hnd⟩ := hW
  have hA : DataW.TrodAll enc Try.prog W 0 (fun _ => true) true Try.f5.params.toList args.toList ds p := hA0
  rw [Try.params5] at hA hval hsz

  obtain ⟨v0, vs0, d0, ds0, p0, q0, hargs, rfl, rfl, h0, r0⟩ := trodAll_cons hA
  obtain ⟨v1, vs1, d1, ds1, p1, q1, rfl, rfl, rfl, h1, r1⟩ := trodAll_cons r0
  obtain ⟨rfl, rfl, rfl⟩ := trodAll_nil r1
  obtain rfl : args = #[v0, v1] := by cases args; simp_all
  obtain ⟨rfl, rfl⟩ := trodVars_none hV
  obtain ⟨m0, rfl⟩ := open_mb (by obtain ⟨cs, h1, _⟩ := (by simpa only [Value.okWide, Try.underlying26] using hval 0 26 v0 rfl rfl : ∃ cs, v0 = .agg cs ∧ _); exact ⟨cs, h1⟩) h0
  obtain ⟨la1, L1, lc1, rfl, lm1, hS1⟩ := open_kts (okWide_slice Try.underlying22 (hval 1 22 v1 rfl rfl)) h1
  have hA2 := hA0
  clear hA0 hval0 hsz0
  simp only [List.append_nil] at hW'
  refine (walk m0 la1 L1 lc1 lm1 W hS1).mono fun e W' ⟨he, bel⟩ => ?_
  subst he
  exact ⟨_, rfl, _, _, _, [], _, [], hW', trodAll_mk1 (shut_bool Try.underlying4 _), (stays_all laidOut bel (by kernel_rfl) hA2), rfl, bel.frame _, fun h => by cases h⟩

theorem over : Rows.keptOnceRow.holds Try.pinned (OpenSpec.ofChange Rows.keptOnceSpec) :=
  OpenClaim.holds_of_wide 5 Try.f5 rfl rfl rfl rfl rfl rfl rfl ⟨rfl, rfl, rfl, rfl, rfl⟩ rfl rfl rfl rfl rfl (by kernel_rfl) Try.func5 (by kernel_rfl)
    (of_decide_eq_true (by kernel_rfl)) (by unfold Func.isWrapper; first | (rw [if_pos (by decide +kernel)]; kernel_rfl) | (rw [if_neg (by decide +kernel)]; exact ⟨rfl, rfl⟩))
    (fun os started H enc _ => lifted os started H enc)

end Go.Proofs.Yteibclgipninoaa.keptOnce
namespace Go.Proofs.Yteibclgipninoaa

theorem keptOnce_holds : Rows.KeptOnceSaid := keptOnce.over
#print axioms keptOnce_holds

end Go.Proofs.Yteibclgipninoaa
