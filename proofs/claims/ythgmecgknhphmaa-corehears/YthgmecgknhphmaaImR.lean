/-
  The document's answers: how two Ids stand, who is in members, who in two of them, whether two lists are the same.
  No condition.
-/
import Derived.Test.YthgmecgknhphmaaBase
namespace Go.Proofs.Ythgmecgknhphmaa
set_option maxRecDepth 10000
set_option linter.unusedSimpArgs false
open Go.RowKit Go.Sort

theorem sizeT3 : (Try.prog.info? 107).map (·.size) = some 3 := by kernel_rfl
theorem zeroT3 : (Try.prog.info? 107).map (fun i => (i.zero, i.size)) = some (some (.agg Idn.zero.arr), 3) := by kernel_rfl

set_option maxHeartbeats 1000000 in
theorem three_ok (a : Idn) (w : World) : Calls Try.prog 58 #[.agg a.arr] w fun e w' => e = .returned (.agg a.arr) ∧ Below w.heap.size w w' := by
  obtain ⟨a1, a2, hB⟩ := two_blk (T0 := 27) (T1 := 107) (C0 := a.arr) (C1 := Idn.zero.arr) (w := w) rfl
  have c0 := a1.cell 0 _ rfl
  have c1 := a1.cell 1 _ rfl
  have c2 := a1.cell 2 _ rfl
  have hpa : putAt Idn.zero.arr 0 a.arr.toList = a.arr := putAt_all _ _ rfl
  go_enter Try.func58, Try.ntmps58
  go_wp2_with (first | refine alloc_zero zeroT3 rfl rfl ?_ | refine build_as rfl 107 _ rfl (C := a.arr) (by kernel_rfl) ?_ | (refine store_part rfl 107 _ _ rfl (off := 0) (cells := a.arr) a2 rfl rfl sizeT3 (by exact Nat.le_refl _) a.arr_one ?_; intro w2 d2 k2; rw [hpa] at d2; have hB2 : Below w.heap.size w w2 := hB.trans (k2.below (by simp) hB.size)))
  refine bodyPost_ret (w := w2) (v := .agg a.arr) (ret_one rfl rfl d2 Try.underlying107 rfl sizeT3) rfl ⟨rfl, hB2⟩

def Idn.at (a : Idn) : Nat → Nat
  | 0 => a.e
  | 1 => a.c
  | _ => a.i
theorem Idn.arr_get (a : Idn) (j : Nat) (h : j < 3) : a.arr[j]? = some (.int .u32 (a.at j : Int)) := by
  obtain rfl | rfl | rfl : j = 0 ∨ j = 1 ∨ j = 2 := by omega
  all_goals rfl
def rc (a b : Idn) (j : Nat) : Int := orI ([cmpN a.e b.e, cmpN a.c b.c, cmpN a.i b.i].drop j)
theorem rc_step (a b : Idn) (j : Nat) (h : j < 3) : rc a b j = if cmpN (a.at j) (b.at j) = 0 then rc a b (j + 1) else cmpN (a.at j) (b.at j) := by
  refine orI_drop _ j _ ?_
  obtain rfl | rfl | rfl : j = 0 ∨ j = 1 ∨ j = 2 := by omega
  all_goals rfl

def Cut3 (W : World) (a b : Idn) (p q : Value) (wx : World) : Prop :=
  ∃ x y, p = .pointer (some ⟨x, 0, none⟩) ∧ q = .pointer (some ⟨y, 0, none⟩) ∧ Blk x a.arr 107 wx ∧ Blk y b.arr 107 wx ∧ Below W.heap.size W wx

set_option maxHeartbeats 8000000 in
theorem rcmp_ok (a b : Idn) (w : World) : Calls Try.prog 23 #[.agg a.arr, .agg b.arr] w fun e w' => e = .returned (.int .i64 (cmpId a b)) ∧ Below w.heap.size w w' := by
  obtain ⟨W, hW⟩ : ∃ W, (w.alloc (.cells a.arr 27)).alloc (.cells b.arr 27) = W := ⟨_, rfl⟩
  obtain ⟨a1, a2, hB⟩ := two_blk hW
  have hl := a2.lt
  have hC0 : Below W.heap.size W W.drew := (Below.refl _ _).drew
  obtain ⟨R, hR⟩ : ∃ R, Hid (cmpId a b = R) := ⟨_, rfl⟩
  rw [hR.out]
  have hR0 : Hid (rc a b 0 = R) := hR
  clear hR
  go_enter Try.func23, Try.ntmps23
  go_upto_region 1 with fail
  go_cut [5, 6] from 8 to 11 (fun p q wx => Cut3 W a b p q wx)
  case first =>
    refine wp_region_held_drew (S := fun w' => Blk w.heap.size a.arr 27 w' ∧ Blk (w.heap.size + 1) b.arr 27 w') (by kernel_rfl) ⟨a1, a2⟩ (fun hHeld => ?_)
    refine' tkH 0 (v := _) rfl (by kernel_rfl) (fun _ _ _ h => h) (yieldsIf_load_mid (by rfl) _ _ rfl w.heap.size 0 rfl a.vals _ ?hS1 Try.underlying27 rfl sizeIdn) hHeld ?rest1
    case hS1 => exact fun w h => h.1.whole
    try simp only [List.getElem_toArray, List.getElem_cons_succ, List.getElem_cons_zero, Act.put, List.setIfInBounds_toArray, List.set_cons_succ, List.set_cons_zero]
    refine' tkH 2 (v := _) rfl (by kernel_rfl) (fun _ _ _ h => h) (yieldsIf_load_mid (by rfl) _ _ rfl (w.heap.size + 1) 0 rfl b.vals _ ?hS2 Try.underlying27 rfl sizeIdn) hHeld ?rest2
    case hS2 => exact fun w h => h.2.whole
    try simp only [List.getElem_toArray, List.getElem_cons_succ, List.getElem_cons_zero, Act.put, List.setIfInBounds_toArray, List.set_cons_succ, List.set_cons_zero]
    refine wpAnyH_ready (rs := [1, 4, 5]) (by kernel_rfl) (by simp) ?_
    refine AllReadyH.cons rfl (fun K hK => ?_) (AllReadyH.cons rfl (fun K hK => ?_) (AllReadyH.cons rfl (fun K hK => ?_) (AllReadyH.nil)))
    · go_simp
      go_wp2_with (refine (three_ok a _).mono ?_; rintro r u1 ⟨rfl, hb⟩)
      have hC1 := hC0.trans (hb.mono hC0.size)
      refine hK.out _ _ ⟨hHeld.1.below hb, hHeld.2.below hb⟩ (fun hHeld => ?_)
      clear hK K hb hC0
      refine wpAnyH_ready (rs := [3, 4, 5]) (by kernel_rfl) (by simp) ?_
      refine AllReadyH.cons rfl (fun K hK => ?_) (AllReadyH.cons rfl (fun K hK => ?_) (AllReadyH.cons rfl (fun K hK => ?_) (AllReadyH.nil)))
      · go_simp
        go_wp2_with (refine (three_ok b _).mono ?_; rintro r u2 ⟨rfl, hb⟩)
        have hC2 := hC1.trans (hb.mono hC1.size)
        refine hK.out _ _ ⟨hHeld.1.below hb, hHeld.2.below hb⟩ (fun hHeld => ?_)
        clear hK K hb hC1
        refine wpAnyH_ready (rs := [4, 5]) (by kernel_rfl) (by simp) ?_
        refine AllReadyH.cons rfl (fun K hK => ?_) (AllReadyH.cons rfl (fun K hK => ?_) (AllReadyH.nil))
        · rw [if_pos (by rfl)]
          refine wp_alloc_any zeroT3 rfl ?_
          intro xp u3 x3 hb xl xt
          have xg := Nat.le_trans hC2.size xl
          have hC3 := hC2.trans (hb.mono hC2.size)
          refine hK.out _ _ ⟨hHeld.1.below hb, hHeld.2.below hb⟩ (fun hHeld => ?_)
          clear hK K hb hC2
          try simp only [List.getElem_toArray, List.getElem_cons_succ, List.getElem_cons_zero, Act.put, List.setIfInBounds_toArray, List.set_cons_succ, List.set_cons_zero]
          refine wpAnyH_ready (rs := [5]) (by kernel_rfl) (by simp) ?_
          refine AllReadyH.cons rfl (fun K hK => ?_) (AllReadyH.nil)
          rw [if_pos (by rfl)]
          refine wp_alloc_any zeroT3 rfl ?_
          intro yp u4 y4 hb yl yt
          have xyn : xp < yp := Nat.lt_of_lt_of_le x3.lt yl
          have yg := Nat.le_trans hC3.size yl
          have hC4 := hC3.trans (hb.mono hC3.size)
          have x4 := x3.below hb
          refine hK.out _ _ ⟨hHeld.1.below hb, hHeld.2.below hb⟩ (fun hHeld => ?_)
          clear hK K hb hC3 x3
          try simp only [List.getElem_toArray, List.getElem_cons_succ, List.getElem_cons_zero, Act.put, List.setIfInBounds_toArray, List.set_cons_succ, List.set_cons_zero]
          refine wpAnyH_ready (rs := [6]) (by kernel_rfl) (by simp) ?_
          refine AllReadyH.cons rfl (fun K hK => ?_) (AllReadyH.nil)
          rw [if_pos (by rfl)]
          refine wp_store_all 107 _ _ rfl (cells := a.arr) x4 rfl rfl sizeT3 rfl a.arr_one ?_
          intro u5 hn hk
          have hC5 := hC4.trans (hk.below (by simp; omega) hC4.size)
          have x5 := hn
          have y5 := y4.kp hk (by simp; omega)
          refine hK.out _ _ ⟨hHeld.1.kp hk (by simp; omega), hHeld.2.kp hk (by simp; omega)⟩ (fun hHeld => ?_)
          clear hK K hk hn hC4 x4 y4
          try simp only [List.getElem_toArray, List.getElem_cons_succ, List.getElem_cons_zero, Act.put, List.setIfInBounds_toArray, List.set_cons_succ, List.set_cons_zero]
          refine wpAnyH_ready (rs := [7]) (by kernel_rfl) (by simp) ?_
          refine AllReadyH.cons rfl (fun K hK => ?_) (AllReadyH.nil)
          rw [if_pos (by rfl)]
          refine wp_store_all 107 _ _ rfl (cells := b.arr) y5 rfl rfl sizeT3 rfl b.arr_one ?_
          intro u6 hn hk
          have hC6 := hC5.trans (hk.below (by simp; omega) hC5.size)
          have x6 := x5.kp hk (by simp; omega)
          have y6 := hn
          refine hK.out _ _ ⟨hHeld.1.kp hk (by simp; omega), hHeld.2.kp hk (by simp; omega)⟩ (fun hHeld => ?_)
          clear hK K hk hn hC5 x5 y5
          try simp only [List.getElem_toArray, List.getElem_cons_succ, List.getElem_cons_zero, Act.put, List.setIfInBounds_toArray, List.set_cons_succ, List.set_cons_zero]
          refine wpAnyH_done (by kernel_rfl) ?_ _
          go_wp2_with fail
          go_meet
          exact ⟨xp, yp, rfl, rfl, x6, y6, hC6⟩
        · rw [if_pos (by rfl)]
          refine wp_alloc_any zeroT3 rfl ?_
          intro yp u7 y3 hb yl yt
          have yg := Nat.le_trans hC2.size yl
          have hC3 := hC2.trans (hb.mono hC2.size)
          refine hK.out _ _ ⟨hHeld.1.below hb, hHeld.2.below hb⟩ (fun hHeld => ?_)
          clear hK K hb hC2
          try simp only [List.getElem_toArray, List.getElem_cons_succ, List.getElem_cons_zero, Act.put, List.setIfInBounds_toArray, List.set_cons_succ, List.set_cons_zero]
          refine wpAnyH_ready (rs := [4]) (by kernel_rfl) (by simp) ?_
          refine AllReadyH.cons rfl (fun K hK => ?_) (AllReadyH.nil)
          rw [if_pos (by rfl)]
          refine wp_alloc_any zeroT3 rfl ?_
          intro xp u8 x4 hb xl xt
          have yxn : yp < xp := Nat.lt_of_lt_of_le y3.lt xl
          have xg := Nat.le_trans hC3.size xl
          have hC4 := hC3.trans (hb.mono hC3.size)
          have y4 := y3.below hb
          refine hK.out _ _ ⟨hHeld.1.below hb, hHeld.2.below hb⟩ (fun hHeld => ?_)
          clear hK K hb hC3 y3
          try simp only [List.getElem_toArray, List.getElem_cons_succ, List.getElem_cons_zero, Act.put, List.setIfInBounds_toArray, List.set_cons_succ, List.set_cons_zero]
          refine wpAnyH_ready (rs := [6]) (by kernel_rfl) (by simp) ?_
          refine AllReadyH.cons rfl (fun K hK => ?_) (AllReadyH.nil)
          rw [if_pos (by rfl)]
          refine wp_store_all 107 _ _ rfl (cells := a.arr) x4 rfl rfl sizeT3 rfl a.arr_one ?_
          intro u9 hn hk
          have hC5 := hC4.trans (hk.below (by simp; omega) hC4.size)
          have y5 := y4.kp hk (by simp; omega)
          have x5 := hn
          refine hK.out _ _ ⟨hHeld.1.kp hk (by simp; omega), hHeld.2.kp hk (by simp; omega)⟩ (fun hHeld => ?_)
          clear hK K hk hn hC4 y4 x4
          try simp only [List.getElem_toArray, List.getElem_cons_succ, List.getElem_cons_zero, Act.put, List.setIfInBounds_toArray, List.set_cons_succ, List.set_cons_zero]
          refine wpAnyH_ready (rs := [7]) (by kernel_rfl) (by simp) ?_
          refine AllReadyH.cons rfl (fun K hK => ?_) (AllReadyH.nil)
          rw [if_pos (by rfl)]
          refine wp_store_all 107 _ _ rfl (cells := b.arr) y5 rfl rfl sizeT3 rfl b.arr_one ?_
          intro u10 hn hk
          have hC6 := hC5.trans (hk.below (by simp; omega) hC5.size)
          have y6 := hn
          have x6 := x5.kp hk (by simp; omega)
          refine hK.out _ _ ⟨hHeld.1.kp hk (by simp; omega), hHeld.2.kp hk (by simp; omega)⟩ (fun hHeld => ?_)
          clear hK K hk hn hC5 y5 x5
          try simp only [List.getElem_toArray, List.getElem_cons_succ, List.getElem_cons_zero, Act.put, List.setIfInBounds_toArray, List.set_cons_succ, List.set_cons_zero]
          refine wpAnyH_done (by kernel_rfl) ?_ _
          go_wp2_with fail
          go_meet
          exact ⟨xp, yp, rfl, rfl, x6, y6, hC6⟩
      · rw [if_pos (by rfl)]
        refine wp_alloc_any zeroT3 rfl ?_
        intro xp u11 x2 hb xl xt
        have xg := Nat.le_trans hC1.size xl
        have hC2 := hC1.trans (hb.mono hC1.size)
        refine hK.out _ _ ⟨hHeld.1.below hb, hHeld.2.below hb⟩ (fun hHeld => ?_)
        clear hK K hb hC1
        try simp only [List.getElem_toArray, List.getElem_cons_succ, List.getElem_cons_zero, Act.put, List.setIfInBounds_toArray, List.set_cons_succ, List.set_cons_zero]
        refine wpAnyH_ready (rs := [3, 5]) (by kernel_rfl) (by simp) ?_
        refine AllReadyH.cons rfl (fun K hK => ?_) (AllReadyH.cons rfl (fun K hK => ?_) (AllReadyH.nil))
        · go_simp
          go_wp2_with (refine (three_ok b _).mono ?_; rintro r u12 ⟨rfl, hb⟩)
          have hC3 := hC2.trans (hb.mono hC2.size)
          have x3 := x2.below hb
          refine hK.out _ _ ⟨hHeld.1.below hb, hHeld.2.below hb⟩ (fun hHeld => ?_)
          clear hK K hb hC2 x2
          refine wpAnyH_ready (rs := [5]) (by kernel_rfl) (by simp) ?_
          refine AllReadyH.cons rfl (fun K hK => ?_) (AllReadyH.nil)
          rw [if_pos (by rfl)]
          refine wp_alloc_any zeroT3 rfl ?_
          intro yp u13 y4 hb yl yt
          have xyn : xp < yp := Nat.lt_of_lt_of_le x3.lt yl
          have yg := Nat.le_trans hC3.size yl
          have hC4 := hC3.trans (hb.mono hC3.size)
          have x4 := x3.below hb
          refine hK.out _ _ ⟨hHeld.1.below hb, hHeld.2.below hb⟩ (fun hHeld => ?_)
          clear hK K hb hC3 x3
          try simp only [List.getElem_toArray, List.getElem_cons_succ, List.getElem_cons_zero, Act.put, List.setIfInBounds_toArray, List.set_cons_succ, List.set_cons_zero]
          refine wpAnyH_ready (rs := [6]) (by kernel_rfl) (by simp) ?_
          refine AllReadyH.cons rfl (fun K hK => ?_) (AllReadyH.nil)
          rw [if_pos (by rfl)]
          refine wp_store_all 107 _ _ rfl (cells := a.arr) x4 rfl rfl sizeT3 rfl a.arr_one ?_
          intro u14 hn hk
          have hC5 := hC4.trans (hk.below (by simp; omega) hC4.size)
          have x5 := hn
          have y5 := y4.kp hk (by simp; omega)
          refine hK.out _ _ ⟨hHeld.1.kp hk (by simp; omega), hHeld.2.kp hk (by simp; omega)⟩ (fun hHeld => ?_)
          clear hK K hk hn hC4 x4 y4
          try simp only [List.getElem_toArray, List.getElem_cons_succ, List.getElem_cons_zero, Act.put, List.setIfInBounds_toArray, List.set_cons_succ, List.set_cons_zero]
          refine wpAnyH_ready (rs := [7]) (by kernel_rfl) (by simp) ?_
          refine AllReadyH.cons rfl (fun K hK => ?_) (AllReadyH.nil)
          rw [if_pos (by rfl)]
          refine wp_store_all 107 _ _ rfl (cells := b.arr) y5 rfl rfl sizeT3 rfl b.arr_one ?_
          intro u15 hn hk
          have hC6 := hC5.trans (hk.below (by simp; omega) hC5.size)
          have x6 := x5.kp hk (by simp; omega)
          have y6 := hn
          refine hK.out _ _ ⟨hHeld.1.kp hk (by simp; omega), hHeld.2.kp hk (by simp; omega)⟩ (fun hHeld => ?_)
          clear hK K hk hn hC5 x5 y5
          try simp only [List.getElem_toArray, List.getElem_cons_succ, List.getElem_cons_zero, Act.put, List.setIfInBounds_toArray, List.set_cons_succ, List.set_cons_zero]
          refine wpAnyH_done (by kernel_rfl) ?_ _
          go_wp2_with fail
          go_meet
          exact ⟨xp, yp, rfl, rfl, x6, y6, hC6⟩
        · rw [if_pos (by rfl)]
          refine wp_alloc_any zeroT3 rfl ?_
          intro yp u16 y3 hb yl yt
          have xyn : xp < yp := Nat.lt_of_lt_of_le x2.lt yl
          have yg := Nat.le_trans hC2.size yl
          have hC3 := hC2.trans (hb.mono hC2.size)
          have x3 := x2.below hb
          refine hK.out _ _ ⟨hHeld.1.below hb, hHeld.2.below hb⟩ (fun hHeld => ?_)
          clear hK K hb hC2 x2
          try simp only [List.getElem_toArray, List.getElem_cons_succ, List.getElem_cons_zero, Act.put, List.setIfInBounds_toArray, List.set_cons_succ, List.set_cons_zero]
          refine wpAnyH_ready (rs := [3]) (by kernel_rfl) (by simp) ?_
          refine AllReadyH.cons rfl (fun K hK => ?_) (AllReadyH.nil)
          go_simp
          go_wp2_with (refine (three_ok b _).mono ?_; rintro r u17 ⟨rfl, hb⟩)
          have hC4 := hC3.trans (hb.mono hC3.size)
          have x4 := x3.below hb
          have y4 := y3.below hb
          refine hK.out _ _ ⟨hHeld.1.below hb, hHeld.2.below hb⟩ (fun hHeld => ?_)
          clear hK K hb hC3 x3 y3
          refine wpAnyH_ready (rs := [6]) (by kernel_rfl) (by simp) ?_
          refine AllReadyH.cons rfl (fun K hK => ?_) (AllReadyH.nil)
          rw [if_pos (by rfl)]
          refine wp_store_all 107 _ _ rfl (cells := a.arr) x4 rfl rfl sizeT3 rfl a.arr_one ?_
          intro u18 hn hk
          have hC5 := hC4.trans (hk.below (by simp; omega) hC4.size)
          have x5 := hn
          have y5 := y4.kp hk (by simp; omega)
          refine hK.out _ _ ⟨hHeld.1.kp hk (by simp; omega), hHeld.2.kp hk (by simp; omega)⟩ (fun hHeld => ?_)
          clear hK K hk hn hC4 x4 y4
          try simp only [List.getElem_toArray, List.getElem_cons_succ, List.getElem_cons_zero, Act.put, List.setIfInBounds_toArray, List.set_cons_succ, List.set_cons_zero]
          refine wpAnyH_ready (rs := [7]) (by kernel_rfl) (by simp) ?_
          refine AllReadyH.cons rfl (fun K hK => ?_) (AllReadyH.nil)
          rw [if_pos (by rfl)]
          refine wp_store_all 107 _ _ rfl (cells := b.arr) y5 rfl rfl sizeT3 rfl b.arr_one ?_
          intro u19 hn hk
          have hC6 := hC5.trans (hk.below (by simp; omega) hC5.size)
          have x6 := x5.kp hk (by simp; omega)
          have y6 := hn
          refine hK.out _ _ ⟨hHeld.1.kp hk (by simp; omega), hHeld.2.kp hk (by simp; omega)⟩ (fun hHeld => ?_)
          clear hK K hk hn hC5 x5 y5
          try simp only [List.getElem_toArray, List.getElem_cons_succ, List.getElem_cons_zero, Act.put, List.setIfInBounds_toArray, List.set_cons_succ, List.set_cons_zero]
          refine wpAnyH_done (by kernel_rfl) ?_ _
          go_wp2_with fail
          go_meet
          exact ⟨xp, yp, rfl, rfl, x6, y6, hC6⟩
      · rw [if_pos (by rfl)]
        refine wp_alloc_any zeroT3 rfl ?_
        intro yp u20 y2 hb yl yt
        have yg := Nat.le_trans hC1.size yl
        have hC2 := hC1.trans (hb.mono hC1.size)
        refine hK.out _ _ ⟨hHeld.1.below hb, hHeld.2.below hb⟩ (fun hHeld => ?_)
        clear hK K hb hC1
        try simp only [List.getElem_toArray, List.getElem_cons_succ, List.getElem_cons_zero, Act.put, List.setIfInBounds_toArray, List.set_cons_succ, List.set_cons_zero]
        refine wpAnyH_ready (rs := [3, 4]) (by kernel_rfl) (by simp) ?_
        refine AllReadyH.cons rfl (fun K hK => ?_) (AllReadyH.cons rfl (fun K hK => ?_) (AllReadyH.nil))
        · go_simp
          go_wp2_with (refine (three_ok b _).mono ?_; rintro r u21 ⟨rfl, hb⟩)
          have hC3 := hC2.trans (hb.mono hC2.size)
          have y3 := y2.below hb
          refine hK.out _ _ ⟨hHeld.1.below hb, hHeld.2.below hb⟩ (fun hHeld => ?_)
          clear hK K hb hC2 y2
          refine wpAnyH_ready (rs := [4]) (by kernel_rfl) (by simp) ?_
          refine AllReadyH.cons rfl (fun K hK => ?_) (AllReadyH.nil)
          rw [if_pos (by rfl)]
          refine wp_alloc_any zeroT3 rfl ?_
          intro xp u22 x4 hb xl xt
          have yxn : yp < xp := Nat.lt_of_lt_of_le y3.lt xl
          have xg := Nat.le_trans hC3.size xl
          have hC4 := hC3.trans (hb.mono hC3.size)
          have y4 := y3.below hb
          refine hK.out _ _ ⟨hHeld.1.below hb, hHeld.2.below hb⟩ (fun hHeld => ?_)
          clear hK K hb hC3 y3
          try simp only [List.getElem_toArray, List.getElem_cons_succ, List.getElem_cons_zero, Act.put, List.setIfInBounds_toArray, List.set_cons_succ, List.set_cons_zero]
          refine wpAnyH_ready (rs := [6]) (by kernel_rfl) (by simp) ?_
          refine AllReadyH.cons rfl (fun K hK => ?_) (AllReadyH.nil)
          rw [if_pos (by rfl)]
          refine wp_store_all 107 _ _ rfl (cells := a.arr) x4 rfl rfl sizeT3 rfl a.arr_one ?_
          intro u23 hn hk
          have hC5 := hC4.trans (hk.below (by simp; omega) hC4.size)
          have y5 := y4.kp hk (by simp; omega)
          have x5 := hn
          refine hK.out _ _ ⟨hHeld.1.kp hk (by simp; omega), hHeld.2.kp hk (by simp; omega)⟩ (fun hHeld => ?_)
          clear hK K hk hn hC4 y4 x4
          try simp only [List.getElem_toArray, List.getElem_cons_succ, List.getElem_cons_zero, Act.put, List.setIfInBounds_toArray, List.set_cons_succ, List.set_cons_zero]
          refine wpAnyH_ready (rs := [7]) (by kernel_rfl) (by simp) ?_
          refine AllReadyH.cons rfl (fun K hK => ?_) (AllReadyH.nil)
          rw [if_pos (by rfl)]
          refine wp_store_all 107 _ _ rfl (cells := b.arr) y5 rfl rfl sizeT3 rfl b.arr_one ?_
          intro u24 hn hk
          have hC6 := hC5.trans (hk.below (by simp; omega) hC5.size)
          have y6 := hn
          have x6 := x5.kp hk (by simp; omega)
          refine hK.out _ _ ⟨hHeld.1.kp hk (by simp; omega), hHeld.2.kp hk (by simp; omega)⟩ (fun hHeld => ?_)
          clear hK K hk hn hC5 y5 x5
          try simp only [List.getElem_toArray, List.getElem_cons_succ, List.getElem_cons_zero, Act.put, List.setIfInBounds_toArray, List.set_cons_succ, List.set_cons_zero]
          refine wpAnyH_done (by kernel_rfl) ?_ _
          go_wp2_with fail
          go_meet
          exact ⟨xp, yp, rfl, rfl, x6, y6, hC6⟩
        · rw [if_pos (by rfl)]
          refine wp_alloc_any zeroT3 rfl ?_
          intro xp u25 x3 hb xl xt
          have yxn : yp < xp := Nat.lt_of_lt_of_le y2.lt xl
          have xg := Nat.le_trans hC2.size xl
          have hC3 := hC2.trans (hb.mono hC2.size)
          have y3 := y2.below hb
          refine hK.out _ _ ⟨hHeld.1.below hb, hHeld.2.below hb⟩ (fun hHeld => ?_)
          clear hK K hb hC2 y2
          try simp only [List.getElem_toArray, List.getElem_cons_succ, List.getElem_cons_zero, Act.put, List.setIfInBounds_toArray, List.set_cons_succ, List.set_cons_zero]
          refine wpAnyH_ready (rs := [3]) (by kernel_rfl) (by simp) ?_
          refine AllReadyH.cons rfl (fun K hK => ?_) (AllReadyH.nil)
          go_simp
          go_wp2_with (refine (three_ok b _).mono ?_; rintro r u26 ⟨rfl, hb⟩)
          have hC4 := hC3.trans (hb.mono hC3.size)
          have y4 := y3.below hb
          have x4 := x3.below hb
          refine hK.out _ _ ⟨hHeld.1.below hb, hHeld.2.below hb⟩ (fun hHeld => ?_)
          clear hK K hb hC3 y3 x3
          refine wpAnyH_ready (rs := [6]) (by kernel_rfl) (by simp) ?_
          refine AllReadyH.cons rfl (fun K hK => ?_) (AllReadyH.nil)
          rw [if_pos (by rfl)]
          refine wp_store_all 107 _ _ rfl (cells := a.arr) x4 rfl rfl sizeT3 rfl a.arr_one ?_
          intro u27 hn hk
          have hC5 := hC4.trans (hk.below (by simp; omega) hC4.size)
          have y5 := y4.kp hk (by simp; omega)
          have x5 := hn
          refine hK.out _ _ ⟨hHeld.1.kp hk (by simp; omega), hHeld.2.kp hk (by simp; omega)⟩ (fun hHeld => ?_)
          clear hK K hk hn hC4 y4 x4
          try simp only [List.getElem_toArray, List.getElem_cons_succ, List.getElem_cons_zero, Act.put, List.setIfInBounds_toArray, List.set_cons_succ, List.set_cons_zero]
          refine wpAnyH_ready (rs := [7]) (by kernel_rfl) (by simp) ?_
          refine AllReadyH.cons rfl (fun K hK => ?_) (AllReadyH.nil)
          rw [if_pos (by rfl)]
          refine wp_store_all 107 _ _ rfl (cells := b.arr) y5 rfl rfl sizeT3 rfl b.arr_one ?_
          intro u28 hn hk
          have hC6 := hC5.trans (hk.below (by simp; omega) hC5.size)
          have y6 := hn
          have x6 := x5.kp hk (by simp; omega)
          refine hK.out _ _ ⟨hHeld.1.kp hk (by simp; omega), hHeld.2.kp hk (by simp; omega)⟩ (fun hHeld => ?_)
          clear hK K hk hn hC5 y5 x5
          try simp only [List.getElem_toArray, List.getElem_cons_succ, List.getElem_cons_zero, Act.put, List.setIfInBounds_toArray, List.set_cons_succ, List.set_cons_zero]
          refine wpAnyH_done (by kernel_rfl) ?_ _
          go_wp2_with fail
          go_meet
          exact ⟨xp, yp, rfl, rfl, x6, y6, hC6⟩
    · rw [if_pos (by rfl)]
      refine wp_alloc_any zeroT3 rfl ?_
      intro xp u29 x1 hb xl xt
      have xg := Nat.le_trans hC0.size xl
      have hC1 := hC0.trans (hb.mono hC0.size)
      refine hK.out _ _ ⟨hHeld.1.below hb, hHeld.2.below hb⟩ (fun hHeld => ?_)
      clear hK K hb hC0
      try simp only [List.getElem_toArray, List.getElem_cons_succ, List.getElem_cons_zero, Act.put, List.setIfInBounds_toArray, List.set_cons_succ, List.set_cons_zero]
      refine wpAnyH_ready (rs := [1, 5]) (by kernel_rfl) (by simp) ?_
      refine AllReadyH.cons rfl (fun K hK => ?_) (AllReadyH.cons rfl (fun K hK => ?_) (AllReadyH.nil))
      · go_simp
        go_wp2_with (refine (three_ok a _).mono ?_; rintro r u30 ⟨rfl, hb⟩)
        have hC2 := hC1.trans (hb.mono hC1.size)
        have x2 := x1.below hb
        refine hK.out _ _ ⟨hHeld.1.below hb, hHeld.2.below hb⟩ (fun hHeld => ?_)
        clear hK K hb hC1 x1
        refine wpAnyH_ready (rs := [3, 5]) (by kernel_rfl) (by simp) ?_
        refine AllReadyH.cons rfl (fun K hK => ?_) (AllReadyH.cons rfl (fun K hK => ?_) (AllReadyH.nil))
        · go_simp
          go_wp2_with (refine (three_ok b _).mono ?_; rintro r u31 ⟨rfl, hb⟩)
          have hC3 := hC2.trans (hb.mono hC2.size)
          have x3 := x2.below hb
          refine hK.out _ _ ⟨hHeld.1.below hb, hHeld.2.below hb⟩ (fun hHeld => ?_)
          clear hK K hb hC2 x2
          refine wpAnyH_ready (rs := [5]) (by kernel_rfl) (by simp) ?_
          refine AllReadyH.cons rfl (fun K hK => ?_) (AllReadyH.nil)
          rw [if_pos (by rfl)]
          refine wp_alloc_any zeroT3 rfl ?_
          intro yp u32 y4 hb yl yt
          have xyn : xp < yp := Nat.lt_of_lt_of_le x3.lt yl
          have yg := Nat.le_trans hC3.size yl
          have hC4 := hC3.trans (hb.mono hC3.size)
          have x4 := x3.below hb
          refine hK.out _ _ ⟨hHeld.1.below hb, hHeld.2.below hb⟩ (fun hHeld => ?_)
          clear hK K hb hC3 x3
          try simp only [List.getElem_toArray, List.getElem_cons_succ, List.getElem_cons_zero, Act.put, List.setIfInBounds_toArray, List.set_cons_succ, List.set_cons_zero]
          refine wpAnyH_ready (rs := [6]) (by kernel_rfl) (by simp) ?_
          refine AllReadyH.cons rfl (fun K hK => ?_) (AllReadyH.nil)
          rw [if_pos (by rfl)]
          refine wp_store_all 107 _ _ rfl (cells := a.arr) x4 rfl rfl sizeT3 rfl a.arr_one ?_
          intro u33 hn hk
          have hC5 := hC4.trans (hk.below (by simp; omega) hC4.size)
          have x5 := hn
          have y5 := y4.kp hk (by simp; omega)
          refine hK.out _ _ ⟨hHeld.1.kp hk (by simp; omega), hHeld.2.kp hk (by simp; omega)⟩ (fun hHeld => ?_)
          clear hK K hk hn hC4 x4 y4
          try simp only [List.getElem_toArray, List.getElem_cons_succ, List.getElem_cons_zero, Act.put, List.setIfInBounds_toArray, List.set_cons_succ, List.set_cons_zero]
          refine wpAnyH_ready (rs := [7]) (by kernel_rfl) (by simp) ?_
          refine AllReadyH.cons rfl (fun K hK => ?_) (AllReadyH.nil)
          rw [if_pos (by rfl)]
          refine wp_store_all 107 _ _ rfl (cells := b.arr) y5 rfl rfl sizeT3 rfl b.arr_one ?_
          intro u34 hn hk
          have hC6 := hC5.trans (hk.below (by simp; omega) hC5.size)
          have x6 := x5.kp hk (by simp; omega)
          have y6 := hn
          refine hK.out _ _ ⟨hHeld.1.kp hk (by simp; omega), hHeld.2.kp hk (by simp; omega)⟩ (fun hHeld => ?_)
          clear hK K hk hn hC5 x5 y5
          try simp only [List.getElem_toArray, List.getElem_cons_succ, List.getElem_cons_zero, Act.put, List.setIfInBounds_toArray, List.set_cons_succ, List.set_cons_zero]
          refine wpAnyH_done (by kernel_rfl) ?_ _
          go_wp2_with fail
          go_meet
          exact ⟨xp, yp, rfl, rfl, x6, y6, hC6⟩
        · rw [if_pos (by rfl)]
          refine wp_alloc_any zeroT3 rfl ?_
          intro yp u35 y3 hb yl yt
          have xyn : xp < yp := Nat.lt_of_lt_of_le x2.lt yl
          have yg := Nat.le_trans hC2.size yl
          have hC3 := hC2.trans (hb.mono hC2.size)
          have x3 := x2.below hb
          refine hK.out _ _ ⟨hHeld.1.below hb, hHeld.2.below hb⟩ (fun hHeld => ?_)
          clear hK K hb hC2 x2
          try simp only [List.getElem_toArray, List.getElem_cons_succ, List.getElem_cons_zero, Act.put, List.setIfInBounds_toArray, List.set_cons_succ, List.set_cons_zero]
          refine wpAnyH_ready (rs := [3]) (by kernel_rfl) (by simp) ?_
          refine AllReadyH.cons rfl (fun K hK => ?_) (AllReadyH.nil)
          go_simp
          go_wp2_with (refine (three_ok b _).mono ?_; rintro r u36 ⟨rfl, hb⟩)
          have hC4 := hC3.trans (hb.mono hC3.size)
          have x4 := x3.below hb
          have y4 := y3.below hb
          refine hK.out _ _ ⟨hHeld.1.below hb, hHeld.2.below hb⟩ (fun hHeld => ?_)
          clear hK K hb hC3 x3 y3
          refine wpAnyH_ready (rs := [6]) (by kernel_rfl) (by simp) ?_
          refine AllReadyH.cons rfl (fun K hK => ?_) (AllReadyH.nil)
          rw [if_pos (by rfl)]
          refine wp_store_all 107 _ _ rfl (cells := a.arr) x4 rfl rfl sizeT3 rfl a.arr_one ?_
          intro u37 hn hk
          have hC5 := hC4.trans (hk.below (by simp; omega) hC4.size)
          have x5 := hn
          have y5 := y4.kp hk (by simp; omega)
          refine hK.out _ _ ⟨hHeld.1.kp hk (by simp; omega), hHeld.2.kp hk (by simp; omega)⟩ (fun hHeld => ?_)
          clear hK K hk hn hC4 x4 y4
          try simp only [List.getElem_toArray, List.getElem_cons_succ, List.getElem_cons_zero, Act.put, List.setIfInBounds_toArray, List.set_cons_succ, List.set_cons_zero]
          refine wpAnyH_ready (rs := [7]) (by kernel_rfl) (by simp) ?_
          refine AllReadyH.cons rfl (fun K hK => ?_) (AllReadyH.nil)
          rw [if_pos (by rfl)]
          refine wp_store_all 107 _ _ rfl (cells := b.arr) y5 rfl rfl sizeT3 rfl b.arr_one ?_
          intro u38 hn hk
          have hC6 := hC5.trans (hk.below (by simp; omega) hC5.size)
          have x6 := x5.kp hk (by simp; omega)
          have y6 := hn
          refine hK.out _ _ ⟨hHeld.1.kp hk (by simp; omega), hHeld.2.kp hk (by simp; omega)⟩ (fun hHeld => ?_)
          clear hK K hk hn hC5 x5 y5
          try simp only [List.getElem_toArray, List.getElem_cons_succ, List.getElem_cons_zero, Act.put, List.setIfInBounds_toArray, List.set_cons_succ, List.set_cons_zero]
          refine wpAnyH_done (by kernel_rfl) ?_ _
          go_wp2_with fail
          go_meet
          exact ⟨xp, yp, rfl, rfl, x6, y6, hC6⟩
      · rw [if_pos (by rfl)]
        refine wp_alloc_any zeroT3 rfl ?_
        intro yp u39 y2 hb yl yt
        have xyn : xp < yp := Nat.lt_of_lt_of_le x1.lt yl
        have yg := Nat.le_trans hC1.size yl
        have hC2 := hC1.trans (hb.mono hC1.size)
        have x2 := x1.below hb
        refine hK.out _ _ ⟨hHeld.1.below hb, hHeld.2.below hb⟩ (fun hHeld => ?_)
        clear hK K hb hC1 x1
        try simp only [List.getElem_toArray, List.getElem_cons_succ, List.getElem_cons_zero, Act.put, List.setIfInBounds_toArray, List.set_cons_succ, List.set_cons_zero]
        refine wpAnyH_ready (rs := [1]) (by kernel_rfl) (by simp) ?_
        refine AllReadyH.cons rfl (fun K hK => ?_) (AllReadyH.nil)
        go_simp
        go_wp2_with (refine (three_ok a _).mono ?_; rintro r u40 ⟨rfl, hb⟩)
        have hC3 := hC2.trans (hb.mono hC2.size)
        have x3 := x2.below hb
        have y3 := y2.below hb
        refine hK.out _ _ ⟨hHeld.1.below hb, hHeld.2.below hb⟩ (fun hHeld => ?_)
        clear hK K hb hC2 x2 y2
        refine wpAnyH_ready (rs := [3]) (by kernel_rfl) (by simp) ?_
        refine AllReadyH.cons rfl (fun K hK => ?_) (AllReadyH.nil)
        go_simp
        go_wp2_with (refine (three_ok b _).mono ?_; rintro r u41 ⟨rfl, hb⟩)
        have hC4 := hC3.trans (hb.mono hC3.size)
        have x4 := x3.below hb
        have y4 := y3.below hb
        refine hK.out _ _ ⟨hHeld.1.below hb, hHeld.2.below hb⟩ (fun hHeld => ?_)
        clear hK K hb hC3 x3 y3
        refine wpAnyH_ready (rs := [6]) (by kernel_rfl) (by simp) ?_
        refine AllReadyH.cons rfl (fun K hK => ?_) (AllReadyH.nil)
        rw [if_pos (by rfl)]
        refine wp_store_all 107 _ _ rfl (cells := a.arr) x4 rfl rfl sizeT3 rfl a.arr_one ?_
        intro u42 hn hk
        have hC5 := hC4.trans (hk.below (by simp; omega) hC4.size)
        have x5 := hn
        have y5 := y4.kp hk (by simp; omega)
        refine hK.out _ _ ⟨hHeld.1.kp hk (by simp; omega), hHeld.2.kp hk (by simp; omega)⟩ (fun hHeld => ?_)
        clear hK K hk hn hC4 x4 y4
        try simp only [List.getElem_toArray, List.getElem_cons_succ, List.getElem_cons_zero, Act.put, List.setIfInBounds_toArray, List.set_cons_succ, List.set_cons_zero]
        refine wpAnyH_ready (rs := [7]) (by kernel_rfl) (by simp) ?_
        refine AllReadyH.cons rfl (fun K hK => ?_) (AllReadyH.nil)
        rw [if_pos (by rfl)]
        refine wp_store_all 107 _ _ rfl (cells := b.arr) y5 rfl rfl sizeT3 rfl b.arr_one ?_
        intro u43 hn hk
        have hC6 := hC5.trans (hk.below (by simp; omega) hC5.size)
        have x6 := x5.kp hk (by simp; omega)
        have y6 := hn
        refine hK.out _ _ ⟨hHeld.1.kp hk (by simp; omega), hHeld.2.kp hk (by simp; omega)⟩ (fun hHeld => ?_)
        clear hK K hk hn hC5 x5 y5
        try simp only [List.getElem_toArray, List.getElem_cons_succ, List.getElem_cons_zero, Act.put, List.setIfInBounds_toArray, List.set_cons_succ, List.set_cons_zero]
        refine wpAnyH_done (by kernel_rfl) ?_ _
        go_wp2_with fail
        go_meet
        exact ⟨xp, yp, rfl, rfl, x6, y6, hC6⟩
    · rw [if_pos (by rfl)]
      refine wp_alloc_any zeroT3 rfl ?_
      intro yp u44 y1 hb yl yt
      have yg := Nat.le_trans hC0.size yl
      have hC1 := hC0.trans (hb.mono hC0.size)
      refine hK.out _ _ ⟨hHeld.1.below hb, hHeld.2.below hb⟩ (fun hHeld => ?_)
      clear hK K hb hC0
      try simp only [List.getElem_toArray, List.getElem_cons_succ, List.getElem_cons_zero, Act.put, List.setIfInBounds_toArray, List.set_cons_succ, List.set_cons_zero]
      refine wpAnyH_ready (rs := [1, 4]) (by kernel_rfl) (by simp) ?_
      refine AllReadyH.cons rfl (fun K hK => ?_) (AllReadyH.cons rfl (fun K hK => ?_) (AllReadyH.nil))
      · go_simp
        go_wp2_with (refine (three_ok a _).mono ?_; rintro r u45 ⟨rfl, hb⟩)
        have hC2 := hC1.trans (hb.mono hC1.size)
        have y2 := y1.below hb
        refine hK.out _ _ ⟨hHeld.1.below hb, hHeld.2.below hb⟩ (fun hHeld => ?_)
        clear hK K hb hC1 y1
        refine wpAnyH_ready (rs := [3, 4]) (by kernel_rfl) (by simp) ?_
        refine AllReadyH.cons rfl (fun K hK => ?_) (AllReadyH.cons rfl (fun K hK => ?_) (AllReadyH.nil))
        · go_simp
          go_wp2_with (refine (three_ok b _).mono ?_; rintro r u46 ⟨rfl, hb⟩)
          have hC3 := hC2.trans (hb.mono hC2.size)
          have y3 := y2.below hb
          refine hK.out _ _ ⟨hHeld.1.below hb, hHeld.2.below hb⟩ (fun hHeld => ?_)
          clear hK K hb hC2 y2
          refine wpAnyH_ready (rs := [4]) (by kernel_rfl) (by simp) ?_
          refine AllReadyH.cons rfl (fun K hK => ?_) (AllReadyH.nil)
          rw [if_pos (by rfl)]
          refine wp_alloc_any zeroT3 rfl ?_
          intro xp u47 x4 hb xl xt
          have yxn : yp < xp := Nat.lt_of_lt_of_le y3.lt xl
          have xg := Nat.le_trans hC3.size xl
          have hC4 := hC3.trans (hb.mono hC3.size)
          have y4 := y3.below hb
          refine hK.out _ _ ⟨hHeld.1.below hb, hHeld.2.below hb⟩ (fun hHeld => ?_)
          clear hK K hb hC3 y3
          try simp only [List.getElem_toArray, List.getElem_cons_succ, List.getElem_cons_zero, Act.put, List.setIfInBounds_toArray, List.set_cons_succ, List.set_cons_zero]
          refine wpAnyH_ready (rs := [6]) (by kernel_rfl) (by simp) ?_
          refine AllReadyH.cons rfl (fun K hK => ?_) (AllReadyH.nil)
          rw [if_pos (by rfl)]
          refine wp_store_all 107 _ _ rfl (cells := a.arr) x4 rfl rfl sizeT3 rfl a.arr_one ?_
          intro u48 hn hk
          have hC5 := hC4.trans (hk.below (by simp; omega) hC4.size)
          have y5 := y4.kp hk (by simp; omega)
          have x5 := hn
          refine hK.out _ _ ⟨hHeld.1.kp hk (by simp; omega), hHeld.2.kp hk (by simp; omega)⟩ (fun hHeld => ?_)
          clear hK K hk hn hC4 y4 x4
          try simp only [List.getElem_toArray, List.getElem_cons_succ, List.getElem_cons_zero, Act.put, List.setIfInBounds_toArray, List.set_cons_succ, List.set_cons_zero]
          refine wpAnyH_ready (rs := [7]) (by kernel_rfl) (by simp) ?_
          refine AllReadyH.cons rfl (fun K hK => ?_) (AllReadyH.nil)
          rw [if_pos (by rfl)]
          refine wp_store_all 107 _ _ rfl (cells := b.arr) y5 rfl rfl sizeT3 rfl b.arr_one ?_
          intro u49 hn hk
          have hC6 := hC5.trans (hk.below (by simp; omega) hC5.size)
          have y6 := hn
          have x6 := x5.kp hk (by simp; omega)
          refine hK.out _ _ ⟨hHeld.1.kp hk (by simp; omega), hHeld.2.kp hk (by simp; omega)⟩ (fun hHeld => ?_)
          clear hK K hk hn hC5 y5 x5
          try simp only [List.getElem_toArray, List.getElem_cons_succ, List.getElem_cons_zero, Act.put, List.setIfInBounds_toArray, List.set_cons_succ, List.set_cons_zero]
          refine wpAnyH_done (by kernel_rfl) ?_ _
          go_wp2_with fail
          go_meet
          exact ⟨xp, yp, rfl, rfl, x6, y6, hC6⟩
        · rw [if_pos (by rfl)]
          refine wp_alloc_any zeroT3 rfl ?_
          intro xp u50 x3 hb xl xt
          have yxn : yp < xp := Nat.lt_of_lt_of_le y2.lt xl
          have xg := Nat.le_trans hC2.size xl
          have hC3 := hC2.trans (hb.mono hC2.size)
          have y3 := y2.below hb
          refine hK.out _ _ ⟨hHeld.1.below hb, hHeld.2.below hb⟩ (fun hHeld => ?_)
          clear hK K hb hC2 y2
          try simp only [List.getElem_toArray, List.getElem_cons_succ, List.getElem_cons_zero, Act.put, List.setIfInBounds_toArray, List.set_cons_succ, List.set_cons_zero]
          refine wpAnyH_ready (rs := [3]) (by kernel_rfl) (by simp) ?_
          refine AllReadyH.cons rfl (fun K hK => ?_) (AllReadyH.nil)
          go_simp
          go_wp2_with (refine (three_ok b _).mono ?_; rintro r u51 ⟨rfl, hb⟩)
          have hC4 := hC3.trans (hb.mono hC3.size)
          have y4 := y3.below hb
          have x4 := x3.below hb
          refine hK.out _ _ ⟨hHeld.1.below hb, hHeld.2.below hb⟩ (fun hHeld => ?_)
          clear hK K hb hC3 y3 x3
          refine wpAnyH_ready (rs := [6]) (by kernel_rfl) (by simp) ?_
          refine AllReadyH.cons rfl (fun K hK => ?_) (AllReadyH.nil)
          rw [if_pos (by rfl)]
          refine wp_store_all 107 _ _ rfl (cells := a.arr) x4 rfl rfl sizeT3 rfl a.arr_one ?_
          intro u52 hn hk
          have hC5 := hC4.trans (hk.below (by simp; omega) hC4.size)
          have y5 := y4.kp hk (by simp; omega)
          have x5 := hn
          refine hK.out _ _ ⟨hHeld.1.kp hk (by simp; omega), hHeld.2.kp hk (by simp; omega)⟩ (fun hHeld => ?_)
          clear hK K hk hn hC4 y4 x4
          try simp only [List.getElem_toArray, List.getElem_cons_succ, List.getElem_cons_zero, Act.put, List.setIfInBounds_toArray, List.set_cons_succ, List.set_cons_zero]
          refine wpAnyH_ready (rs := [7]) (by kernel_rfl) (by simp) ?_
          refine AllReadyH.cons rfl (fun K hK => ?_) (AllReadyH.nil)
          rw [if_pos (by rfl)]
          refine wp_store_all 107 _ _ rfl (cells := b.arr) y5 rfl rfl sizeT3 rfl b.arr_one ?_
          intro u53 hn hk
          have hC6 := hC5.trans (hk.below (by simp; omega) hC5.size)
          have y6 := hn
          have x6 := x5.kp hk (by simp; omega)
          refine hK.out _ _ ⟨hHeld.1.kp hk (by simp; omega), hHeld.2.kp hk (by simp; omega)⟩ (fun hHeld => ?_)
          clear hK K hk hn hC5 y5 x5
          try simp only [List.getElem_toArray, List.getElem_cons_succ, List.getElem_cons_zero, Act.put, List.setIfInBounds_toArray, List.set_cons_succ, List.set_cons_zero]
          refine wpAnyH_done (by kernel_rfl) ?_ _
          go_wp2_with fail
          go_meet
          exact ⟨xp, yp, rfl, rfl, x6, y6, hC6⟩
      · rw [if_pos (by rfl)]
        refine wp_alloc_any zeroT3 rfl ?_
        intro xp u54 x2 hb xl xt
        have yxn : yp < xp := Nat.lt_of_lt_of_le y1.lt xl
        have xg := Nat.le_trans hC1.size xl
        have hC2 := hC1.trans (hb.mono hC1.size)
        have y2 := y1.below hb
        refine hK.out _ _ ⟨hHeld.1.below hb, hHeld.2.below hb⟩ (fun hHeld => ?_)
        clear hK K hb hC1 y1
        try simp only [List.getElem_toArray, List.getElem_cons_succ, List.getElem_cons_zero, Act.put, List.setIfInBounds_toArray, List.set_cons_succ, List.set_cons_zero]
        refine wpAnyH_ready (rs := [1]) (by kernel_rfl) (by simp) ?_
        refine AllReadyH.cons rfl (fun K hK => ?_) (AllReadyH.nil)
        go_simp
        go_wp2_with (refine (three_ok a _).mono ?_; rintro r u55 ⟨rfl, hb⟩)
        have hC3 := hC2.trans (hb.mono hC2.size)
        have y3 := y2.below hb
        have x3 := x2.below hb
        refine hK.out _ _ ⟨hHeld.1.below hb, hHeld.2.below hb⟩ (fun hHeld => ?_)
        clear hK K hb hC2 y2 x2
        refine wpAnyH_ready (rs := [3]) (by kernel_rfl) (by simp) ?_
        refine AllReadyH.cons rfl (fun K hK => ?_) (AllReadyH.nil)
        go_simp
        go_wp2_with (refine (three_ok b _).mono ?_; rintro r u56 ⟨rfl, hb⟩)
        have hC4 := hC3.trans (hb.mono hC3.size)
        have y4 := y3.below hb
        have x4 := x3.below hb
        refine hK.out _ _ ⟨hHeld.1.below hb, hHeld.2.below hb⟩ (fun hHeld => ?_)
        clear hK K hb hC3 y3 x3
        refine wpAnyH_ready (rs := [6]) (by kernel_rfl) (by simp) ?_
        refine AllReadyH.cons rfl (fun K hK => ?_) (AllReadyH.nil)
        rw [if_pos (by rfl)]
        refine wp_store_all 107 _ _ rfl (cells := a.arr) x4 rfl rfl sizeT3 rfl a.arr_one ?_
        intro u57 hn hk
        have hC5 := hC4.trans (hk.below (by simp; omega) hC4.size)
        have y5 := y4.kp hk (by simp; omega)
        have x5 := hn
        refine hK.out _ _ ⟨hHeld.1.kp hk (by simp; omega), hHeld.2.kp hk (by simp; omega)⟩ (fun hHeld => ?_)
        clear hK K hk hn hC4 y4 x4
        try simp only [List.getElem_toArray, List.getElem_cons_succ, List.getElem_cons_zero, Act.put, List.setIfInBounds_toArray, List.set_cons_succ, List.set_cons_zero]
        refine wpAnyH_ready (rs := [7]) (by kernel_rfl) (by simp) ?_
        refine AllReadyH.cons rfl (fun K hK => ?_) (AllReadyH.nil)
        rw [if_pos (by rfl)]
        refine wp_store_all 107 _ _ rfl (cells := b.arr) y5 rfl rfl sizeT3 rfl b.arr_one ?_
        intro u58 hn hk
        have hC6 := hC5.trans (hk.below (by simp; omega) hC5.size)
        have y6 := hn
        have x6 := x5.kp hk (by simp; omega)
        refine hK.out _ _ ⟨hHeld.1.kp hk (by simp; omega), hHeld.2.kp hk (by simp; omega)⟩ (fun hHeld => ?_)
        clear hK K hk hn hC5 y5 x5
        try simp only [List.getElem_toArray, List.getElem_cons_succ, List.getElem_cons_zero, Act.put, List.setIfInBounds_toArray, List.set_cons_succ, List.set_cons_zero]
        refine wpAnyH_done (by kernel_rfl) ?_ _
        go_wp2_with fail
        go_meet
        exact ⟨xp, yp, rfl, rfl, x6, y6, hC6⟩
  case rest =>
    obtain ⟨x, y, rfl, rfl, x0, y0, hC⟩ := hcut
    clear a1 a2 hC0 hW
    have hB := hB.trans (hC.mono hB.size)
    clear hC hl
    go_wp2_with fail
    go_loopw [7] (fun iv wr => ∃ j : Nat, j ≤ 3 ∧ iv = .int .i64 j ∧ Hid (rc a b j = R) ∧ Blk x a.arr 107 wr ∧ Blk y b.arr 107 wr ∧ Below w.heap.size w wr) (fun iv _ => 3 - (intOf iv).toNat)
    case atStart => exact ⟨0, by omega, rfl, hR0, x0, y0, hB⟩
    case round =>
      clear x0 y0 hB hR0
      obtain ⟨j, hj, rfl, hR, x0, y0, hB⟩ := hrel
      by_cases hj3 : j < 3
      · have j0 : (j : Int) < 3 := by omega
        have j1 : (0 : Int) ≤ (j : Int) := by omega
        have hst := rc_step a b j hj3
        have c0 := x0.cell j _ (a.arr_get j hj3)
        have c1 := y0.cell j _ (b.arr_get j hj3)
        rw [hR.out] at hst
        generalize a.at j = u at *
        generalize b.at j = v at *
        rcases cmpN_cases u v with ⟨h, e⟩ | ⟨h, e⟩ | ⟨h, e⟩
        · rw [e, if_neg (by decide)] at hst
          subst hst
          have h' : (u : Int) < (v : Int) := by omega
          have hB' := hB.drew
          clear e h hR
          go_wp2_with fail
          go_region
          go_wp2_with fail
          go_ret
          exact ⟨rfl, hB'⟩
        · rw [e, if_neg (by decide)] at hst
          subst hst
          have h' : ¬ (u : Int) < (v : Int) := by omega
          have h'' : (v : Int) < (u : Int) := by omega
          have hB' := hB.drew.drew
          clear e h hR
          go_wp2_with fail
          go_region
          go_wp2_with fail
          go_region
          go_wp2_with fail
          go_ret
          exact ⟨rfl, hB'⟩
        · rw [e, if_pos rfl] at hst
          have HS : Hid (rc a b (j + 1) = R) := hst.symm
          have h' : ¬ (u : Int) < (v : Int) := by omega
          have h'' : ¬ (v : Int) < (u : Int) := by omega
          have hB' := hB.drew.drew
          have x1 := x0.drew.drew
          have y1 := y0.drew.drew
          clear e h hR hst
          go_wp2_with fail
          go_region
          go_wp2_with fail
          go_region
          go_wp2_with fail
          exact ⟨⟨j + 1, by omega, by go_num, HS, x1, y1, hB'⟩, by simp [intOf]; omega⟩
      · obtain rfl : j = 3 := by omega
        have hz : R = 0 := by rw [← hR.out]; rfl
        subst hz
        clear hR x0 y0
        go_wp2_with fail
        go_ret
        exact ⟨rfl, hB⟩

end Go.Proofs.Ythgmecgknhphmaa
