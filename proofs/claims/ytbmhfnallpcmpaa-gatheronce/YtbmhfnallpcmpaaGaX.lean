/-
  Calls whose answers the document fixes (pair and fixed of congresslaw12): what they answer.
  No condition.
-/
import Derived.Test.YtbmhfnallpcmpaaGaF
namespace Go.Proofs.Ytbmhfnallpcmpaa
set_option maxRecDepth 10000
open Go.RowKit Go.Sort
set_option linter.unusedVariables false

def m11 : Nat → Nat := fun i => if i < 2 then 1 else 0
def pairO : Co := ⟨0, 0, 1, Bt.zero, Idn.zero, noMb, noMb, none, 0, 0, ⟨1, 0, 1⟩, m11, noMb, false, noPe, 1⟩
def pairP (x : Idn) : Pe := ⟨1, Idn.zero, x, noMb, false⟩
def pairC (x : Idn) : Co := ⟨0, 0, 1, Bt.zero, Idn.zero, noMb, noMb, none, 0, 0, ⟨1, 0, 1⟩, m11, noMb, false, putP noPe 1 (pairP x), 1⟩
theorem pair_set (x : Idn) : putAt (coc pairO) 76 (pairP x).arr.toList = coc (pairC x) := Co.s_peer pairO 1 (pairP x) (by decide)

set_option maxHeartbeats 2000000 in
theorem pair_ok (x : Idn) (w : World) : Calls Try.prog 22 #[.agg x.arr] w fun e w' => e = .returned (.agg (coc (pairC x))) ∧ Below w.heap.size w w' := by
  obtain ⟨a0, a1, hB⟩ := two_blk (T0 := 27) (T1 := 35) (C0 := x.arr) (C1 := coc Co.zero) (w := w) rfl
  go_enter Try.func22, Try.ntmps22
  go_upto_region 1 with (refine alloc_zero zeroCo rfl rfl ?_)
  try simp only [Act.put, List.setIfInBounds_toArray, List.set_cons_zero, List.set_cons_succ]
  try simp only [alloc_size]
  generalize (w.alloc (Obj.cells x.arr 27)).alloc (Obj.cells (coc Co.zero) 35) = W at a0 a1 hB ⊢
  have hb := below_box W (.cells (coc pairO) 35)
  have a2 := blk_new W (coc pairO) 35
  have hV : w.heap.size + 1 < W.heap.size := a1.lt
  go_upto_region 2 with (first | (refine build_as rfl 27 #[(0, .const (.int .u32 1)), (2, .const (.int .u32 1))] rfl (C := (Idn.mk 1 0 1).arr) ?_ ?_; kernel_rfl) | (refine build_as rfl 28 #[(0, .const (.int .u32 1)), (1, .const (.int .u32 1))] rfl (C := mbc m11) ?_ ?_; kernel_rfl) | (refine build_as rfl 35 #[(2, .const (.int .u32 1)), (8, .tmp 4), (9, .tmp 5), (13, .const (.int .u32 1))] rfl (C := coc pairO) ?_ ?_; kernel_rfl) | refine alloc_zero zeroCo rfl rfl ?_ | refine store_new rfl 35 _ _ rfl (cells := coc pairO) rfl rfl sizeCo rfl (coc_one _) ?_)
  try simp only [Act.put, List.setIfInBounds_toArray, List.set_cons_zero, List.set_cons_succ]
  generalize W.alloc (Obj.cells (coc pairO) 35) = W2 at a2 hb ⊢
  replace a0 := a0.below hb
  replace a1 := a1.below hb
  replace hB := hB.trans (hb.mono hB.size)
  clear hb 
  generalize W.heap.size = V at a2 hV ⊢
  go_upto_region 3 with (first | refine load_blk rfl 27 _ rfl a0 rfl Try.underlying27 rfl sizeIdn ?_ | (refine build_as rfl 32 #[(0, .const (.int .u32 1)), (2, .tmp 7)] rfl (C := (pairP x).arr) ?_ ?_; kernel_rfl) | (refine store_part rfl 32 _ _ rfl (off := 76) (cells := (pairP x).arr) a2 rfl rfl sizePe (by show 76 + 16 ≤ 189; omega) (Pe.arr_one _) ?_; intro w5 b5 k5; rw [pair_set] at b5; replace a1 := a1.kp1 k5 (by omega); replace hB : Below w.heap.size w w5 := hB.trans (k5.below1 (by omega) hB.size)))
  go_wp2_with (first | refine load_blk rfl 35 _ rfl b5 rfl Try.underlying35 rfl sizeCo ?_ | (refine store_part rfl 35 _ _ rfl (off := 0) (cells := coc (pairC x)) a1 rfl rfl sizeCo (Nat.le_refl _) (coc_one _) ?_; intro w9 b9 k9; rw [Co.all] at b9; have hB9 : Below w.heap.size w w9 := hB.trans (k9.below1 (by omega) hB.size)))
  exact bodyPost_ret (w := w9) (v := .agg (coc (pairC x))) (ret_one rfl rfl b9 Try.underlying35 rfl sizeCo) rfl ⟨rfl, hB9⟩

theorem f1 : proB (pairC (Idn.mk 1 0 1)) m11 = false := by decide
theorem f2 : propI (pairC (Idn.mk 1 0 1)) m11 = ⟨0, 0, 0⟩ := by rw [propI, f1]; rfl
theorem f3 : proB (pairC (Idn.mk 1 1 1)) m11 = true := by decide
theorem f4 : propI (pairC (Idn.mk 1 1 1)) m11 = ⟨2, 0, 1⟩ := by rw [propI, f3]; rfl
theorem f5 : allB (pairC (Idn.mk 1 0 1)) = true := by decide
theorem f6 : allB (pairC Idn.zero) = false := by decide
theorem f7 : doneB (pairC (Idn.mk 1 0 1)) = false := by decide

def Fx (V : Nat) (w : World) (t : Value) (w' : World) : Prop := t = .bool false ∧ Blk V (mbc m11) 28 w' ∧ Below w.heap.size w w'
def Fy (V : Nat) (w : World) (p t : Value) (w' : World) : Prop := ∃ z, p = .pointer (some ⟨z, 0, none⟩) ∧ t = .bool true ∧ Blk z (Idn.mk 2 0 1).arr 27 w' ∧ Blk V (mbc m11) 28 w' ∧ Below w.heap.size w w'
set_option maxHeartbeats 8000000 in
theorem fixed_ok (w : World) : Calls Try.prog 8 #[] w fun e w' => e = .returned (.bool true) ∧ Below w.heap.size w w' := by
  have pA := pair_ok (Idn.mk 1 0 1)
  have pB := pair_ok (Idn.mk 1 1 1)
  have pO := pair_ok Idn.zero
  have qA := propose_ok (pairC (Idn.mk 1 0 1)) 0 (by decide) rfl (by decide) m11
  have qB := propose_ok (pairC (Idn.mk 1 1 1)) 0 (by decide) rfl (by decide) m11
  rw [f1, f2] at qA
  rw [f3, f4] at qB
  have r1 := all_ok (pairC (Idn.mk 1 0 1))
  have r2 := all_ok (pairC Idn.zero)
  have r3 := done_ok (pairC (Idn.mk 1 0 1))
  rw [f5] at r1
  rw [f6] at r2
  rw [f7] at r3
  generalize pairC (Idn.mk 1 0 1) = cY at *
  generalize pairC (Idn.mk 1 1 1) = cZ at *
  generalize pairC Idn.zero = cO at *
  have k0 := eqlIdn (Idn.mk 2 0 1) (Idn.mk 2 0 1) true (Idn.same_self _)
  have a1 := blk_new w (mbc m11) 28
  have hB : Below w.heap.size w (w.alloc (.cells (mbc m11) 28)) := below_box w _
  go_enter Try.func8, Try.ntmps8
  go_upto_region 2 with (first | (refine build_as rfl 28 #[(0, .const (.int .u32 1)), (1, .const (.int .u32 1))] rfl (C := mbc m11) ?_ ?_; kernel_rfl) | refine alloc_zero zeroMb rfl rfl ?_ | refine store_new rfl 28 _ _ rfl (cells := mbc m11) rfl rfl sizeMb rfl (mbc_one _) ?_)
  try simp only [Act.put, List.setIfInBounds_toArray, List.set_cons_zero, List.set_cons_succ]
  generalize w.alloc (Obj.cells (mbc m11) 28) = W at a1 hB ⊢
  generalize hVV : w.heap.size = V at a1 ⊢
  clear hVV
  have hC0 : Below W.heap.size W W.drew := (Below.refl _ _).drew
  have V0 := a1.lt
  go_cut [2, 3] from 7 to 13 (fun pv ov wx => Fx V w ov wx)
  case first =>
    refine wp_region_held_drew (S := fun w' => Blk V (mbc m11) 28 w') (by kernel_rfl) a1 (fun hHeld => ?_)
    refine wpAnyH_take (i := 0) (v := ?v88) rfl (by kernel_rfl) (by kernel_rfl) (by kernel_rfl) (fun _ _ _ h => h) (Or.inl ⟨by rfl, ?hy88⟩) hHeld ?rest88
    case hy88 => (intro w hSw; clear hSw; go_simp; try with_reducible rfl)
    try simp only [List.getElem_toArray]
    try simp only [List.getElem_cons_succ]
    try simp only [List.getElem_cons_zero]
    try simp only [Act.put]
    try simp only [List.setIfInBounds_toArray]
    try simp only [List.set_cons_succ]
    try simp only [List.set_cons_zero]
    refine' wpAnyH_take (i := 2) (v := _) rfl (by kernel_rfl) (by kernel_rfl) (by kernel_rfl) (fun _ _ _ h => h) (yieldsIf_load_mid (by rfl) _ _ rfl V 0 rfl (row8 m11) _ ?hS89 Try.underlying28 rfl sizeMb) hHeld ?rest89
    case hS89 => exact fun w h => h.whole
    try simp only [List.getElem_toArray]
    try simp only [List.getElem_cons_succ]
    try simp only [List.getElem_cons_zero]
    try simp only [Act.put]
    try simp only [List.setIfInBounds_toArray]
    try simp only [List.set_cons_succ]
    try simp only [List.set_cons_zero]
    refine wpAnyH_ready (rs := [1, 7]) (by kernel_rfl) (by simp) ?_
    refine AllReadyH.cons rfl (fun K hK => ?_) (AllReadyH.cons rfl (fun K hK => ?_) (AllReadyH.nil))
    · go_simp
      go_wp2_with (refine (pA _).mono ?_; rintro r u1 ⟨rfl, hb⟩)
      have hC1 := hC0.trans (hb.mono hC0.size)
      refine hK.out _ _ (hHeld.below hb) (fun hHeld => ?_)
      clear hK K hb hC0
      refine wpAnyH_ready (rs := [3, 7]) (by kernel_rfl) (by simp) ?_
      refine AllReadyH.cons rfl (fun K hK => ?_) (AllReadyH.cons rfl (fun K hK => ?_) (AllReadyH.nil))
      · go_simp
        go_wp2_with (refine (qA _).mono ?_; rintro r u2 ⟨rfl, hb⟩)
        have hC2 := hC1.trans (hb.mono hC1.size)
        refine hK.out _ _ (hHeld.below hb) (fun hHeld => ?_)
        clear hK K hb hC1
        refine wpAnyH_take (i := 4) (v := ?v90) rfl (by kernel_rfl) (by kernel_rfl) (by kernel_rfl) (fun _ _ _ h => h) (Or.inl ⟨by rfl, ?hy90⟩) hHeld ?rest90
        case hy90 => (intro w hSw; clear hSw; go_simp; try with_reducible rfl)
        try simp only [List.getElem_toArray]
        try simp only [List.getElem_cons_succ]
        try simp only [List.getElem_cons_zero]
        try simp only [Act.put]
        try simp only [List.setIfInBounds_toArray]
        try simp only [List.set_cons_succ]
        try simp only [List.set_cons_zero]
        refine wpAnyH_take (i := 5) (v := ?v91) rfl (by kernel_rfl) (by kernel_rfl) (by kernel_rfl) (fun _ _ _ h => h) (Or.inl ⟨by rfl, ?hy91⟩) hHeld ?rest91
        case hy91 => (intro w hSw; clear hSw; go_simp; try with_reducible rfl)
        try simp only [List.getElem_toArray]
        try simp only [List.getElem_cons_succ]
        try simp only [List.getElem_cons_zero]
        try simp only [Act.put]
        try simp only [List.setIfInBounds_toArray]
        try simp only [List.set_cons_succ]
        try simp only [List.set_cons_zero]
        refine wpAnyH_take (i := 6) (v := ?v92) rfl (by kernel_rfl) (by kernel_rfl) (by kernel_rfl) (fun _ _ _ h => h) (Or.inl ⟨by rfl, ?hy92⟩) hHeld ?rest92
        case hy92 => (intro w hSw; clear hSw; go_simp; try with_reducible rfl)
        try simp only [List.getElem_toArray]
        try simp only [List.getElem_cons_succ]
        try simp only [List.getElem_cons_zero]
        try simp only [Act.put]
        try simp only [List.setIfInBounds_toArray]
        try simp only [List.set_cons_succ]
        try simp only [List.set_cons_zero]
        refine wpAnyH_ready (rs := [7]) (by kernel_rfl) (by simp) ?_
        refine AllReadyH.cons rfl (fun K hK => ?_) (AllReadyH.nil)
        rw [if_pos (by rfl)]
        refine wp_alloc_any zeroIdn rfl ?_
        intro zp u3 z3 hb zl zt
        have zg := Nat.le_trans hC2.size zl
        have hC3 := hC2.trans (hb.mono hC2.size)
        refine hK.out _ _ (hHeld.below hb) (fun hHeld => ?_)
        clear hK K hb hC2
        try simp only [List.getElem_toArray]
        try simp only [List.getElem_cons_succ]
        try simp only [List.getElem_cons_zero]
        try simp only [Act.put]
        try simp only [List.setIfInBounds_toArray]
        try simp only [List.set_cons_succ]
        try simp only [List.set_cons_zero]
        refine wpAnyH_ready (rs := [8]) (by kernel_rfl) (by simp) ?_
        refine AllReadyH.cons rfl (fun K hK => ?_) (AllReadyH.nil)
        rw [if_pos (by rfl)]
        refine wp_store_all 27 _ _ rfl (cells := (Idn.mk 0 0 0).arr) z3 rfl rfl sizeIdn rfl (Idn.arr_one _) ?_
        intro u4 hn hk
        have hC4 := hC3.trans (hk.below (by simp <;> omega) hC3.size)
        have z4 := hn
        refine hK.out _ _ (hHeld.kp hk (by simp <;> omega)) (fun hHeld => ?_)
        clear hK K hk hn hC3 z3
        try simp only [List.getElem_toArray]
        try simp only [List.getElem_cons_succ]
        try simp only [List.getElem_cons_zero]
        try simp only [Act.put]
        try simp only [List.setIfInBounds_toArray]
        try simp only [List.set_cons_succ]
        try simp only [List.set_cons_zero]
        refine wpAnyH_take (i := 9) (v := ?v93) rfl (by kernel_rfl) (by kernel_rfl) (by kernel_rfl) (fun _ _ _ h => h) (Or.inl ⟨by rfl, ?hy93⟩) hHeld ?rest93
        case hy93 => (intro w hSw; clear hSw; go_simp; try with_reducible rfl)
        try simp only [List.getElem_toArray]
        try simp only [List.getElem_cons_succ]
        try simp only [List.getElem_cons_zero]
        try simp only [Act.put]
        try simp only [List.setIfInBounds_toArray]
        try simp only [List.set_cons_succ]
        try simp only [List.set_cons_zero]
        refine wpAnyH_done (by kernel_rfl) ?_ _
        go_wp2_with fail
        go_meet
        exact ⟨rfl, hHeld, hB.trans (hC4.mono hB.size)⟩
      · rw [if_pos (by rfl)]
        refine wp_alloc_any zeroIdn rfl ?_
        intro zp u5 z2 hb zl zt
        have zg := Nat.le_trans hC1.size zl
        have hC2 := hC1.trans (hb.mono hC1.size)
        refine hK.out _ _ (hHeld.below hb) (fun hHeld => ?_)
        clear hK K hb hC1
        try simp only [List.getElem_toArray]
        try simp only [List.getElem_cons_succ]
        try simp only [List.getElem_cons_zero]
        try simp only [Act.put]
        try simp only [List.setIfInBounds_toArray]
        try simp only [List.set_cons_succ]
        try simp only [List.set_cons_zero]
        refine wpAnyH_ready (rs := [3]) (by kernel_rfl) (by simp) ?_
        refine AllReadyH.cons rfl (fun K hK => ?_) (AllReadyH.nil)
        go_simp
        go_wp2_with (refine (qA _).mono ?_; rintro r u6 ⟨rfl, hb⟩)
        have hC3 := hC2.trans (hb.mono hC2.size)
        have z3 := z2.below hb
        refine hK.out _ _ (hHeld.below hb) (fun hHeld => ?_)
        clear hK K hb hC2 z2
        refine wpAnyH_take (i := 4) (v := ?v94) rfl (by kernel_rfl) (by kernel_rfl) (by kernel_rfl) (fun _ _ _ h => h) (Or.inl ⟨by rfl, ?hy94⟩) hHeld ?rest94
        case hy94 => (intro w hSw; clear hSw; go_simp; try with_reducible rfl)
        try simp only [List.getElem_toArray]
        try simp only [List.getElem_cons_succ]
        try simp only [List.getElem_cons_zero]
        try simp only [Act.put]
        try simp only [List.setIfInBounds_toArray]
        try simp only [List.set_cons_succ]
        try simp only [List.set_cons_zero]
        refine wpAnyH_take (i := 5) (v := ?v95) rfl (by kernel_rfl) (by kernel_rfl) (by kernel_rfl) (fun _ _ _ h => h) (Or.inl ⟨by rfl, ?hy95⟩) hHeld ?rest95
        case hy95 => (intro w hSw; clear hSw; go_simp; try with_reducible rfl)
        try simp only [List.getElem_toArray]
        try simp only [List.getElem_cons_succ]
        try simp only [List.getElem_cons_zero]
        try simp only [Act.put]
        try simp only [List.setIfInBounds_toArray]
        try simp only [List.set_cons_succ]
        try simp only [List.set_cons_zero]
        refine wpAnyH_take (i := 6) (v := ?v96) rfl (by kernel_rfl) (by kernel_rfl) (by kernel_rfl) (fun _ _ _ h => h) (Or.inl ⟨by rfl, ?hy96⟩) hHeld ?rest96
        case hy96 => (intro w hSw; clear hSw; go_simp; try with_reducible rfl)
        try simp only [List.getElem_toArray]
        try simp only [List.getElem_cons_succ]
        try simp only [List.getElem_cons_zero]
        try simp only [Act.put]
        try simp only [List.setIfInBounds_toArray]
        try simp only [List.set_cons_succ]
        try simp only [List.set_cons_zero]
        refine wpAnyH_ready (rs := [8]) (by kernel_rfl) (by simp) ?_
        refine AllReadyH.cons rfl (fun K hK => ?_) (AllReadyH.nil)
        rw [if_pos (by rfl)]
        refine wp_store_all 27 _ _ rfl (cells := (Idn.mk 0 0 0).arr) z3 rfl rfl sizeIdn rfl (Idn.arr_one _) ?_
        intro u7 hn hk
        have hC4 := hC3.trans (hk.below (by simp <;> omega) hC3.size)
        have z4 := hn
        refine hK.out _ _ (hHeld.kp hk (by simp <;> omega)) (fun hHeld => ?_)
        clear hK K hk hn hC3 z3
        try simp only [List.getElem_toArray]
        try simp only [List.getElem_cons_succ]
        try simp only [List.getElem_cons_zero]
        try simp only [Act.put]
        try simp only [List.setIfInBounds_toArray]
        try simp only [List.set_cons_succ]
        try simp only [List.set_cons_zero]
        refine wpAnyH_take (i := 9) (v := ?v97) rfl (by kernel_rfl) (by kernel_rfl) (by kernel_rfl) (fun _ _ _ h => h) (Or.inl ⟨by rfl, ?hy97⟩) hHeld ?rest97
        case hy97 => (intro w hSw; clear hSw; go_simp; try with_reducible rfl)
        try simp only [List.getElem_toArray]
        try simp only [List.getElem_cons_succ]
        try simp only [List.getElem_cons_zero]
        try simp only [Act.put]
        try simp only [List.setIfInBounds_toArray]
        try simp only [List.set_cons_succ]
        try simp only [List.set_cons_zero]
        refine wpAnyH_done (by kernel_rfl) ?_ _
        go_wp2_with fail
        go_meet
        exact ⟨rfl, hHeld, hB.trans (hC4.mono hB.size)⟩
    · rw [if_pos (by rfl)]
      refine wp_alloc_any zeroIdn rfl ?_
      intro zp u8 z1 hb zl zt
      have zg := Nat.le_trans hC0.size zl
      have hC1 := hC0.trans (hb.mono hC0.size)
      refine hK.out _ _ (hHeld.below hb) (fun hHeld => ?_)
      clear hK K hb hC0
      try simp only [List.getElem_toArray]
      try simp only [List.getElem_cons_succ]
      try simp only [List.getElem_cons_zero]
      try simp only [Act.put]
      try simp only [List.setIfInBounds_toArray]
      try simp only [List.set_cons_succ]
      try simp only [List.set_cons_zero]
      refine wpAnyH_ready (rs := [1]) (by kernel_rfl) (by simp) ?_
      refine AllReadyH.cons rfl (fun K hK => ?_) (AllReadyH.nil)
      go_simp
      go_wp2_with (refine (pA _).mono ?_; rintro r u9 ⟨rfl, hb⟩)
      have hC2 := hC1.trans (hb.mono hC1.size)
      have z2 := z1.below hb
      refine hK.out _ _ (hHeld.below hb) (fun hHeld => ?_)
      clear hK K hb hC1 z1
      refine wpAnyH_ready (rs := [3]) (by kernel_rfl) (by simp) ?_
      refine AllReadyH.cons rfl (fun K hK => ?_) (AllReadyH.nil)
      go_simp
      go_wp2_with (refine (qA _).mono ?_; rintro r u10 ⟨rfl, hb⟩)
      have hC3 := hC2.trans (hb.mono hC2.size)
      have z3 := z2.below hb
      refine hK.out _ _ (hHeld.below hb) (fun hHeld => ?_)
      clear hK K hb hC2 z2
      refine wpAnyH_take (i := 4) (v := ?v98) rfl (by kernel_rfl) (by kernel_rfl) (by kernel_rfl) (fun _ _ _ h => h) (Or.inl ⟨by rfl, ?hy98⟩) hHeld ?rest98
      case hy98 => (intro w hSw; clear hSw; go_simp; try with_reducible rfl)
      try simp only [List.getElem_toArray]
      try simp only [List.getElem_cons_succ]
      try simp only [List.getElem_cons_zero]
      try simp only [Act.put]
      try simp only [List.setIfInBounds_toArray]
      try simp only [List.set_cons_succ]
      try simp only [List.set_cons_zero]
      refine wpAnyH_take (i := 5) (v := ?v99) rfl (by kernel_rfl) (by kernel_rfl) (by kernel_rfl) (fun _ _ _ h => h) (Or.inl ⟨by rfl, ?hy99⟩) hHeld ?rest99
      case hy99 => (intro w hSw; clear hSw; go_simp; try with_reducible rfl)
      try simp only [List.getElem_toArray]
      try simp only [List.getElem_cons_succ]
      try simp only [List.getElem_cons_zero]
      try simp only [Act.put]
      try simp only [List.setIfInBounds_toArray]
      try simp only [List.set_cons_succ]
      try simp only [List.set_cons_zero]
      refine wpAnyH_take (i := 6) (v := ?v100) rfl (by kernel_rfl) (by kernel_rfl) (by kernel_rfl) (fun _ _ _ h => h) (Or.inl ⟨by rfl, ?hy100⟩) hHeld ?rest100
      case hy100 => (intro w hSw; clear hSw; go_simp; try with_reducible rfl)
      try simp only [List.getElem_toArray]
      try simp only [List.getElem_cons_succ]
      try simp only [List.getElem_cons_zero]
      try simp only [Act.put]
      try simp only [List.setIfInBounds_toArray]
      try simp only [List.set_cons_succ]
      try simp only [List.set_cons_zero]
      refine wpAnyH_ready (rs := [8]) (by kernel_rfl) (by simp) ?_
      refine AllReadyH.cons rfl (fun K hK => ?_) (AllReadyH.nil)
      rw [if_pos (by rfl)]
      refine wp_store_all 27 _ _ rfl (cells := (Idn.mk 0 0 0).arr) z3 rfl rfl sizeIdn rfl (Idn.arr_one _) ?_
      intro u11 hn hk
      have hC4 := hC3.trans (hk.below (by simp <;> omega) hC3.size)
      have z4 := hn
      refine hK.out _ _ (hHeld.kp hk (by simp <;> omega)) (fun hHeld => ?_)
      clear hK K hk hn hC3 z3
      try simp only [List.getElem_toArray]
      try simp only [List.getElem_cons_succ]
      try simp only [List.getElem_cons_zero]
      try simp only [Act.put]
      try simp only [List.setIfInBounds_toArray]
      try simp only [List.set_cons_succ]
      try simp only [List.set_cons_zero]
      refine wpAnyH_take (i := 9) (v := ?v101) rfl (by kernel_rfl) (by kernel_rfl) (by kernel_rfl) (fun _ _ _ h => h) (Or.inl ⟨by rfl, ?hy101⟩) hHeld ?rest101
      case hy101 => (intro w hSw; clear hSw; go_simp; try with_reducible rfl)
      try simp only [List.getElem_toArray]
      try simp only [List.getElem_cons_succ]
      try simp only [List.getElem_cons_zero]
      try simp only [Act.put]
      try simp only [List.setIfInBounds_toArray]
      try simp only [List.set_cons_succ]
      try simp only [List.set_cons_zero]
      refine wpAnyH_done (by kernel_rfl) ?_ _
      go_wp2_with fail
      go_meet
      exact ⟨rfl, hHeld, hB.trans (hC4.mono hB.size)⟩
  case rest =>
    obtain ⟨rfl, a1', hB'⟩ := hcut
    clear a1 hB hC0 V0 qA
    rename World => U
    have hC0 : Below U.heap.size U U.drew := (Below.refl _ _).drew
    have V0 := a1'.lt
    go_upto_region 3 with fail
    go_cut [4, 5] from 14 to 20 (fun pv ov wx => Fy V w pv ov wx)
    case first =>
      refine wp_region_held_drew (S := fun w' => Blk V (mbc m11) 28 w') (by kernel_rfl) a1' (fun hHeld => ?_)
      refine wpAnyH_take (i := 0) (v := ?v102) rfl (by kernel_rfl) (by kernel_rfl) (by kernel_rfl) (fun _ _ _ h => h) (Or.inl ⟨by rfl, ?hy102⟩) hHeld ?rest102
      case hy102 => (intro w hSw; clear hSw; go_simp; try with_reducible rfl)
      try simp only [List.getElem_toArray]
      try simp only [List.getElem_cons_succ]
      try simp only [List.getElem_cons_zero]
      try simp only [Act.put]
      try simp only [List.setIfInBounds_toArray]
      try simp only [List.set_cons_succ]
      try simp only [List.set_cons_zero]
      refine' wpAnyH_take (i := 2) (v := _) rfl (by kernel_rfl) (by kernel_rfl) (by kernel_rfl) (fun _ _ _ h => h) (yieldsIf_load_mid (by rfl) _ _ rfl V 0 rfl (row8 m11) _ ?hS103 Try.underlying28 rfl sizeMb) hHeld ?rest103
      case hS103 => exact fun w h => h.whole
      try simp only [List.getElem_toArray]
      try simp only [List.getElem_cons_succ]
      try simp only [List.getElem_cons_zero]
      try simp only [Act.put]
      try simp only [List.setIfInBounds_toArray]
      try simp only [List.set_cons_succ]
      try simp only [List.set_cons_zero]
      refine wpAnyH_ready (rs := [1, 7]) (by kernel_rfl) (by simp) ?_
      refine AllReadyH.cons rfl (fun K hK => ?_) (AllReadyH.cons rfl (fun K hK => ?_) (AllReadyH.nil))
      · go_simp
        go_wp2_with (refine (pB _).mono ?_; rintro r u1 ⟨rfl, hb⟩)
        have hC1 := hC0.trans (hb.mono hC0.size)
        refine hK.out _ _ (hHeld.below hb) (fun hHeld => ?_)
        clear hK K hb hC0
        refine wpAnyH_ready (rs := [3, 7]) (by kernel_rfl) (by simp) ?_
        refine AllReadyH.cons rfl (fun K hK => ?_) (AllReadyH.cons rfl (fun K hK => ?_) (AllReadyH.nil))
        · go_simp
          go_wp2_with (refine (qB _).mono ?_; rintro r u2 ⟨rfl, hb⟩)
          have hC2 := hC1.trans (hb.mono hC1.size)
          refine hK.out _ _ (hHeld.below hb) (fun hHeld => ?_)
          clear hK K hb hC1
          refine wpAnyH_take (i := 4) (v := ?v104) rfl (by kernel_rfl) (by kernel_rfl) (by kernel_rfl) (fun _ _ _ h => h) (Or.inl ⟨by rfl, ?hy104⟩) hHeld ?rest104
          case hy104 => (intro w hSw; clear hSw; go_simp; try with_reducible rfl)
          try simp only [List.getElem_toArray]
          try simp only [List.getElem_cons_succ]
          try simp only [List.getElem_cons_zero]
          try simp only [Act.put]
          try simp only [List.setIfInBounds_toArray]
          try simp only [List.set_cons_succ]
          try simp only [List.set_cons_zero]
          refine wpAnyH_take (i := 5) (v := ?v105) rfl (by kernel_rfl) (by kernel_rfl) (by kernel_rfl) (fun _ _ _ h => h) (Or.inl ⟨by rfl, ?hy105⟩) hHeld ?rest105
          case hy105 => (intro w hSw; clear hSw; go_simp; try with_reducible rfl)
          try simp only [List.getElem_toArray]
          try simp only [List.getElem_cons_succ]
          try simp only [List.getElem_cons_zero]
          try simp only [Act.put]
          try simp only [List.setIfInBounds_toArray]
          try simp only [List.set_cons_succ]
          try simp only [List.set_cons_zero]
          refine wpAnyH_take (i := 6) (v := ?v106) rfl (by kernel_rfl) (by kernel_rfl) (by kernel_rfl) (fun _ _ _ h => h) (Or.inl ⟨by rfl, ?hy106⟩) hHeld ?rest106
          case hy106 => (intro w hSw; clear hSw; go_simp; try with_reducible rfl)
          try simp only [List.getElem_toArray]
          try simp only [List.getElem_cons_succ]
          try simp only [List.getElem_cons_zero]
          try simp only [Act.put]
          try simp only [List.setIfInBounds_toArray]
          try simp only [List.set_cons_succ]
          try simp only [List.set_cons_zero]
          refine wpAnyH_ready (rs := [7]) (by kernel_rfl) (by simp) ?_
          refine AllReadyH.cons rfl (fun K hK => ?_) (AllReadyH.nil)
          rw [if_pos (by rfl)]
          refine wp_alloc_any zeroIdn rfl ?_
          intro zp u3 z3 hb zl zt
          have zg := Nat.le_trans hC2.size zl
          have hC3 := hC2.trans (hb.mono hC2.size)
          refine hK.out _ _ (hHeld.below hb) (fun hHeld => ?_)
          clear hK K hb hC2
          try simp only [List.getElem_toArray]
          try simp only [List.getElem_cons_succ]
          try simp only [List.getElem_cons_zero]
          try simp only [Act.put]
          try simp only [List.setIfInBounds_toArray]
          try simp only [List.set_cons_succ]
          try simp only [List.set_cons_zero]
          refine wpAnyH_ready (rs := [8]) (by kernel_rfl) (by simp) ?_
          refine AllReadyH.cons rfl (fun K hK => ?_) (AllReadyH.nil)
          rw [if_pos (by rfl)]
          refine wp_store_all 27 _ _ rfl (cells := (Idn.mk 2 0 1).arr) z3 rfl rfl sizeIdn rfl (Idn.arr_one _) ?_
          intro u4 hn hk
          have hC4 := hC3.trans (hk.below (by simp <;> omega) hC3.size)
          have z4 := hn
          refine hK.out _ _ (hHeld.kp hk (by simp <;> omega)) (fun hHeld => ?_)
          clear hK K hk hn hC3 z3
          try simp only [List.getElem_toArray]
          try simp only [List.getElem_cons_succ]
          try simp only [List.getElem_cons_zero]
          try simp only [Act.put]
          try simp only [List.setIfInBounds_toArray]
          try simp only [List.set_cons_succ]
          try simp only [List.set_cons_zero]
          refine wpAnyH_take (i := 9) (v := ?v107) rfl (by kernel_rfl) (by kernel_rfl) (by kernel_rfl) (fun _ _ _ h => h) (Or.inl ⟨by rfl, ?hy107⟩) hHeld ?rest107
          case hy107 => (intro w hSw; clear hSw; go_simp; try with_reducible rfl)
          try simp only [List.getElem_toArray]
          try simp only [List.getElem_cons_succ]
          try simp only [List.getElem_cons_zero]
          try simp only [Act.put]
          try simp only [List.setIfInBounds_toArray]
          try simp only [List.set_cons_succ]
          try simp only [List.set_cons_zero]
          refine wpAnyH_done (by kernel_rfl) ?_ _
          go_wp2_with fail
          go_meet
          exact ⟨zp, rfl, rfl, z4, hHeld, hB'.trans (hC4.mono hB'.size)⟩
        · rw [if_pos (by rfl)]
          refine wp_alloc_any zeroIdn rfl ?_
          intro zp u5 z2 hb zl zt
          have zg := Nat.le_trans hC1.size zl
          have hC2 := hC1.trans (hb.mono hC1.size)
          refine hK.out _ _ (hHeld.below hb) (fun hHeld => ?_)
          clear hK K hb hC1
          try simp only [List.getElem_toArray]
          try simp only [List.getElem_cons_succ]
          try simp only [List.getElem_cons_zero]
          try simp only [Act.put]
          try simp only [List.setIfInBounds_toArray]
          try simp only [List.set_cons_succ]
          try simp only [List.set_cons_zero]
          refine wpAnyH_ready (rs := [3]) (by kernel_rfl) (by simp) ?_
          refine AllReadyH.cons rfl (fun K hK => ?_) (AllReadyH.nil)
          go_simp
          go_wp2_with (refine (qB _).mono ?_; rintro r u6 ⟨rfl, hb⟩)
          have hC3 := hC2.trans (hb.mono hC2.size)
          have z3 := z2.below hb
          refine hK.out _ _ (hHeld.below hb) (fun hHeld => ?_)
          clear hK K hb hC2 z2
          refine wpAnyH_take (i := 4) (v := ?v108) rfl (by kernel_rfl) (by kernel_rfl) (by kernel_rfl) (fun _ _ _ h => h) (Or.inl ⟨by rfl, ?hy108⟩) hHeld ?rest108
          case hy108 => (intro w hSw; clear hSw; go_simp; try with_reducible rfl)
          try simp only [List.getElem_toArray]
          try simp only [List.getElem_cons_succ]
          try simp only [List.getElem_cons_zero]
          try simp only [Act.put]
          try simp only [List.setIfInBounds_toArray]
          try simp only [List.set_cons_succ]
          try simp only [List.set_cons_zero]
          refine wpAnyH_take (i := 5) (v := ?v109) rfl (by kernel_rfl) (by kernel_rfl) (by kernel_rfl) (fun _ _ _ h => h) (Or.inl ⟨by rfl, ?hy109⟩) hHeld ?rest109
          case hy109 => (intro w hSw; clear hSw; go_simp; try with_reducible rfl)
          try simp only [List.getElem_toArray]
          try simp only [List.getElem_cons_succ]
          try simp only [List.getElem_cons_zero]
          try simp only [Act.put]
          try simp only [List.setIfInBounds_toArray]
          try simp only [List.set_cons_succ]
          try simp only [List.set_cons_zero]
          refine wpAnyH_take (i := 6) (v := ?v110) rfl (by kernel_rfl) (by kernel_rfl) (by kernel_rfl) (fun _ _ _ h => h) (Or.inl ⟨by rfl, ?hy110⟩) hHeld ?rest110
          case hy110 => (intro w hSw; clear hSw; go_simp; try with_reducible rfl)
          try simp only [List.getElem_toArray]
          try simp only [List.getElem_cons_succ]
          try simp only [List.getElem_cons_zero]
          try simp only [Act.put]
          try simp only [List.setIfInBounds_toArray]
          try simp only [List.set_cons_succ]
          try simp only [List.set_cons_zero]
          refine wpAnyH_ready (rs := [8]) (by kernel_rfl) (by simp) ?_
          refine AllReadyH.cons rfl (fun K hK => ?_) (AllReadyH.nil)
          rw [if_pos (by rfl)]
          refine wp_store_all 27 _ _ rfl (cells := (Idn.mk 2 0 1).arr) z3 rfl rfl sizeIdn rfl (Idn.arr_one _) ?_
          intro u7 hn hk
          have hC4 := hC3.trans (hk.below (by simp <;> omega) hC3.size)
          have z4 := hn
          refine hK.out _ _ (hHeld.kp hk (by simp <;> omega)) (fun hHeld => ?_)
          clear hK K hk hn hC3 z3
          try simp only [List.getElem_toArray]
          try simp only [List.getElem_cons_succ]
          try simp only [List.getElem_cons_zero]
          try simp only [Act.put]
          try simp only [List.setIfInBounds_toArray]
          try simp only [List.set_cons_succ]
          try simp only [List.set_cons_zero]
          refine wpAnyH_take (i := 9) (v := ?v111) rfl (by kernel_rfl) (by kernel_rfl) (by kernel_rfl) (fun _ _ _ h => h) (Or.inl ⟨by rfl, ?hy111⟩) hHeld ?rest111
          case hy111 => (intro w hSw; clear hSw; go_simp; try with_reducible rfl)
          try simp only [List.getElem_toArray]
          try simp only [List.getElem_cons_succ]
          try simp only [List.getElem_cons_zero]
          try simp only [Act.put]
          try simp only [List.setIfInBounds_toArray]
          try simp only [List.set_cons_succ]
          try simp only [List.set_cons_zero]
          refine wpAnyH_done (by kernel_rfl) ?_ _
          go_wp2_with fail
          go_meet
          exact ⟨zp, rfl, rfl, z4, hHeld, hB'.trans (hC4.mono hB'.size)⟩
      · rw [if_pos (by rfl)]
        refine wp_alloc_any zeroIdn rfl ?_
        intro zp u8 z1 hb zl zt
        have zg := Nat.le_trans hC0.size zl
        have hC1 := hC0.trans (hb.mono hC0.size)
        refine hK.out _ _ (hHeld.below hb) (fun hHeld => ?_)
        clear hK K hb hC0
        try simp only [List.getElem_toArray]
        try simp only [List.getElem_cons_succ]
        try simp only [List.getElem_cons_zero]
        try simp only [Act.put]
        try simp only [List.setIfInBounds_toArray]
        try simp only [List.set_cons_succ]
        try simp only [List.set_cons_zero]
        refine wpAnyH_ready (rs := [1]) (by kernel_rfl) (by simp) ?_
        refine AllReadyH.cons rfl (fun K hK => ?_) (AllReadyH.nil)
        go_simp
        go_wp2_with (refine (pB _).mono ?_; rintro r u9 ⟨rfl, hb⟩)
        have hC2 := hC1.trans (hb.mono hC1.size)
        have z2 := z1.below hb
        refine hK.out _ _ (hHeld.below hb) (fun hHeld => ?_)
        clear hK K hb hC1 z1
        refine wpAnyH_ready (rs := [3]) (by kernel_rfl) (by simp) ?_
        refine AllReadyH.cons rfl (fun K hK => ?_) (AllReadyH.nil)
        go_simp
        go_wp2_with (refine (qB _).mono ?_; rintro r u10 ⟨rfl, hb⟩)
        have hC3 := hC2.trans (hb.mono hC2.size)
        have z3 := z2.below hb
        refine hK.out _ _ (hHeld.below hb) (fun hHeld => ?_)
        clear hK K hb hC2 z2
        refine wpAnyH_take (i := 4) (v := ?v112) rfl (by kernel_rfl) (by kernel_rfl) (by kernel_rfl) (fun _ _ _ h => h) (Or.inl ⟨by rfl, ?hy112⟩) hHeld ?rest112
        case hy112 => (intro w hSw; clear hSw; go_simp; try with_reducible rfl)
        try simp only [List.getElem_toArray]
        try simp only [List.getElem_cons_succ]
        try simp only [List.getElem_cons_zero]
        try simp only [Act.put]
        try simp only [List.setIfInBounds_toArray]
        try simp only [List.set_cons_succ]
        try simp only [List.set_cons_zero]
        refine wpAnyH_take (i := 5) (v := ?v113) rfl (by kernel_rfl) (by kernel_rfl) (by kernel_rfl) (fun _ _ _ h => h) (Or.inl ⟨by rfl, ?hy113⟩) hHeld ?rest113
        case hy113 => (intro w hSw; clear hSw; go_simp; try with_reducible rfl)
        try simp only [List.getElem_toArray]
        try simp only [List.getElem_cons_succ]
        try simp only [List.getElem_cons_zero]
        try simp only [Act.put]
        try simp only [List.setIfInBounds_toArray]
        try simp only [List.set_cons_succ]
        try simp only [List.set_cons_zero]
        refine wpAnyH_take (i := 6) (v := ?v114) rfl (by kernel_rfl) (by kernel_rfl) (by kernel_rfl) (fun _ _ _ h => h) (Or.inl ⟨by rfl, ?hy114⟩) hHeld ?rest114
        case hy114 => (intro w hSw; clear hSw; go_simp; try with_reducible rfl)
        try simp only [List.getElem_toArray]
        try simp only [List.getElem_cons_succ]
        try simp only [List.getElem_cons_zero]
        try simp only [Act.put]
        try simp only [List.setIfInBounds_toArray]
        try simp only [List.set_cons_succ]
        try simp only [List.set_cons_zero]
        refine wpAnyH_ready (rs := [8]) (by kernel_rfl) (by simp) ?_
        refine AllReadyH.cons rfl (fun K hK => ?_) (AllReadyH.nil)
        rw [if_pos (by rfl)]
        refine wp_store_all 27 _ _ rfl (cells := (Idn.mk 2 0 1).arr) z3 rfl rfl sizeIdn rfl (Idn.arr_one _) ?_
        intro u11 hn hk
        have hC4 := hC3.trans (hk.below (by simp <;> omega) hC3.size)
        have z4 := hn
        refine hK.out _ _ (hHeld.kp hk (by simp <;> omega)) (fun hHeld => ?_)
        clear hK K hk hn hC3 z3
        try simp only [List.getElem_toArray]
        try simp only [List.getElem_cons_succ]
        try simp only [List.getElem_cons_zero]
        try simp only [Act.put]
        try simp only [List.setIfInBounds_toArray]
        try simp only [List.set_cons_succ]
        try simp only [List.set_cons_zero]
        refine wpAnyH_take (i := 9) (v := ?v115) rfl (by kernel_rfl) (by kernel_rfl) (by kernel_rfl) (fun _ _ _ h => h) (Or.inl ⟨by rfl, ?hy115⟩) hHeld ?rest115
        case hy115 => (intro w hSw; clear hSw; go_simp; try with_reducible rfl)
        try simp only [List.getElem_toArray]
        try simp only [List.getElem_cons_succ]
        try simp only [List.getElem_cons_zero]
        try simp only [Act.put]
        try simp only [List.setIfInBounds_toArray]
        try simp only [List.set_cons_succ]
        try simp only [List.set_cons_zero]
        refine wpAnyH_done (by kernel_rfl) ?_ _
        go_wp2_with fail
        go_meet
        exact ⟨zp, rfl, rfl, z4, hHeld, hB'.trans (hC4.mono hB'.size)⟩
    case rest =>
      obtain ⟨z, rfl, rfl, a4, a1, hB⟩ := hcut
      clear hC0 a1' hB' a1
      rename World => U3
      go_upto_region 4 with fail
      go_wp2_with (first | refine load_want rfl 27 _ rfl a4 rfl Try.underlying27 rfl sizeIdn ?_ | (refine build_want rfl 27 #[(0, .const (.int .u32 2)), (2, .const (.int .u32 1))] rfl (C := (Idn.mk 2 0 1).arr) ?_ ?_; kernel_rfl) | (refine build_want rfl 27 #[(0, .const (.int .u32 1)), (2, .const (.int .u32 1))] rfl (C := (Idn.mk 1 0 1).arr) ?_ ?_; kernel_rfl))
      refine (pA _).mono ?_
      rintro r w4 ⟨rfl, hb⟩
      replace hB := hB.trans (hb.mono hB.size)
      clear hb
      go_wp2_with fail
      refine (r1 _).mono ?_
      rintro r w5 ⟨rfl, hb⟩
      replace hB := hB.trans (hb.mono hB.size)
      clear hb r1
      go_wp2_with ((refine build_want rfl 27 #[] rfl (C := Idn.zero.arr) ?_ ?_; kernel_rfl))
      refine (pO _).mono ?_
      rintro r w6 ⟨rfl, hb⟩
      replace hB := hB.trans (hb.mono hB.size)
      clear hb pO
      go_wp2_with fail
      refine (r2 _).mono ?_
      rintro r w7 ⟨rfl, hb⟩
      replace hB := hB.trans (hb.mono hB.size)
      clear hb r2
      go_wp2_with ((refine build_want rfl 27 #[(0, .const (.int .u32 1)), (2, .const (.int .u32 1))] rfl (C := (Idn.mk 1 0 1).arr) ?_ ?_; kernel_rfl))
      refine (pA _).mono ?_
      rintro r w8 ⟨rfl, hb⟩
      replace hB := hB.trans (hb.mono hB.size)
      clear hb pA
      go_wp2_with fail
      refine (r3 _).mono ?_
      rintro r w9 ⟨rfl, hb⟩
      replace hB := hB.trans (hb.mono hB.size)
      clear hb r3
      go_wp2_with fail
      go_ret
      exact ⟨rfl, hB⟩

end Go.Proofs.Ytbmhfnallpcmpaa
