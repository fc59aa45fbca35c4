/-
  What one proposes: what the call answers (gather.Propose).
  Of a Self from 0 to 7; its epoch is such as a uint32 holds.
-/
import Derived.Test.YthgmecgknhphmaaGaE
namespace Go.Proofs.Ythgmecgknhphmaa
set_option maxRecDepth 10000
open Go.RowKit Go.Sort
set_option linter.unusedVariables false

set_option maxHeartbeats 4000000 in
theorem propose_ok (c : Co) (s : Nat) (hs : s < 8) (hc : c.self = (s : Int)) (he : c.epoch < 4294967296) (m : Nat → Nat) (w : World) : Calls Try.prog 63 #[.agg (coc c), .agg (mbc m)] w fun e w' => e = .returned (.tuple #[.agg (propI c m).arr, .bool (proB c m)]) ∧ Below w.heap.size w w' := by
  obtain ⟨a0, a1, a2, hB⟩ := three_blk (T0 := 35) (T1 := 28) (T2 := 27) (C0 := coc c) (C1 := mbc m) (C2 := Idn.zero.arr) (w := w) rfl
  obtain ⟨P, HP⟩ : ∃ P, Hid (propI c m = P) := ⟨_, rfl⟩
  obtain ⟨B, HQ⟩ : ∃ P, Hid (proB c m = P) := ⟨_, rfl⟩
  rw [HP.out, HQ.out]
  have pl := least_ok m
  have ps := stands_ok c s hs hc m
  obtain ⟨t1, ht1⟩ : ∃ t, (!(lst m).isEmpty) = t := ⟨_, rfl⟩
  obtain ⟨l, hl⟩ : ∃ l, (lst m).headD 0 = l := ⟨_, rfl⟩
  obtain ⟨t2, ht2⟩ : ∃ t, decide ((l : Int) = c.self) = t := ⟨_, rfl⟩
  obtain ⟨t3, ht3⟩ : ∃ t, standB c m = t := ⟨_, rfl⟩
  obtain ⟨t4, ht4⟩ : ∃ t, decide (c.epoch = 4294967295) = t := ⟨_, rfl⟩
  have HE : Hid (proB c m = (((t1 && t2) && !t3) && !t4)) := by
    show proB c m = _
    rw [proB, ht1, hl, ht2, ht3, ht4]
  rw [hl, ht1] at pl
  rw [ht3] at ps
  rw [hc] at ht2
  clear ht1 ht3 hl
  go_enter Try.func63, Try.ntmps63
  go_upto_region 1 with (refine alloc_zero zeroIdn rfl rfl ?_)
  try simp only [Act.put, List.setIfInBounds_toArray, List.set_cons_zero, List.set_cons_succ]
  try simp only [alloc_size]
  generalize ((w.alloc (Obj.cells (coc c) 35)).alloc (Obj.cells (mbc m) 28)).alloc (Obj.cells Idn.zero.arr 27) = W at a0 a1 a2 hB ⊢
  go_wp2_with (refine load_blk rfl 28 _ rfl a1 rfl Try.underlying28 rfl sizeMb ?_)
  refine (pl _).mono ?_
  rintro r w1 ⟨rfl, hb⟩
  replace a0 := a0.below hb
  replace a1 := a1.below hb
  replace a2 := a2.below hb
  replace hB := hB.trans (hb.mono hB.size)
  clear hb pl
  have c0 := a0.cell 0 (.int .i64 c.self) rfl
  rw [hc] at c0
  cases t1 with
  | false =>
    clear ps ht2 ht4 c0
    obtain ⟨rfl, rfl⟩ : P = Idn.zero ∧ B = false := by
      have e : proB c m = false := by rw [HE.out]; rfl
      rw [← HP.out, ← HQ.out, propI, e]
      exact ⟨rfl, rfl⟩
    clear HP HQ HE
    go_wp2_with (first | (refine build_as rfl 27 #[] rfl (C := Idn.zero.arr) ?_ ?_; kernel_rfl) | (refine store_part rfl 27 _ _ rfl (off := 0) (cells := Idn.zero.arr) a2 rfl rfl sizeIdn (Nat.le_refl _) Idn.zero.arr_one ?_; intro w9 b9 k9; rw [Idn.all] at b9; have hB9 : Below w.heap.size w w9 := hB.trans (k9.below1 (by omega) hB.size)))
    exact bodyPost_ret (w := w9) (v := .tuple #[.agg Idn.zero.arr, .bool false]) (ret_two rfl rfl b9 Try.underlying27 rfl sizeIdn rfl) rfl ⟨rfl, hB9⟩
  | true =>
    cases t2 with
    | false =>
      have n2 : ¬ (l : Int) = (s : Int) := of_decide_eq_false ht2
      clear ps ht2 ht4
      obtain ⟨rfl, rfl⟩ : P = Idn.zero ∧ B = false := by
        have e : proB c m = false := by rw [HE.out]; rfl
        rw [← HP.out, ← HQ.out, propI, e]
        exact ⟨rfl, rfl⟩
      clear HP HQ HE
      go_wp2_with (first | (refine build_as rfl 27 #[] rfl (C := Idn.zero.arr) ?_ ?_; kernel_rfl) | (refine store_part rfl 27 _ _ rfl (off := 0) (cells := Idn.zero.arr) a2 rfl rfl sizeIdn (Nat.le_refl _) Idn.zero.arr_one ?_; intro w9 b9 k9; rw [Idn.all] at b9; have hB9 : Below w.heap.size w w9 := hB.trans (k9.below1 (by omega) hB.size)))
      exact bodyPost_ret (w := w9) (v := .tuple #[.agg Idn.zero.arr, .bool false]) (ret_two rfl rfl b9 Try.underlying27 rfl sizeIdn rfl) rfl ⟨rfl, hB9⟩
    | true =>
      have n2 : (l : Int) = (s : Int) := of_decide_eq_true ht2
      clear ht2
      go_wp2_with (first | refine load_want rfl 35 _ rfl a0 rfl Try.underlying35 rfl sizeCo ?_ | refine load_want rfl 28 _ rfl a1 rfl Try.underlying28 rfl sizeMb ?_)
      refine (ps _).mono ?_
      rintro r w2 ⟨rfl, hb⟩
      clear c0
      replace a0 := a0.below hb
      replace a2 := a2.below hb
      replace hB := hB.trans (hb.mono hB.size)
      clear hb ps a1
      have c0 := a0.cell 0 (.int .i64 c.self) rfl
      rw [hc] at c0
      have c1 := a0.cell 188 (.int .u32 (c.epoch : Int)) rfl
      have c2 := a0.cell 2 (.int .u32 (c.own : Int)) rfl
      cases t3 with
      | true =>
        clear ht4
        obtain ⟨rfl, rfl⟩ : P = Idn.zero ∧ B = false := by
          have e : proB c m = false := by rw [HE.out]; rfl
          rw [← HP.out, ← HQ.out, propI, e]
          exact ⟨rfl, rfl⟩
        clear HP HQ HE
        go_wp2_with (first | (refine build_as rfl 27 #[] rfl (C := Idn.zero.arr) ?_ ?_; kernel_rfl) | (refine store_part rfl 27 _ _ rfl (off := 0) (cells := Idn.zero.arr) a2 rfl rfl sizeIdn (Nat.le_refl _) Idn.zero.arr_one ?_; intro w9 b9 k9; rw [Idn.all] at b9; have hB9 : Below w.heap.size w w9 := hB.trans (k9.below1 (by omega) hB.size)))
        exact bodyPost_ret (w := w9) (v := .tuple #[.agg Idn.zero.arr, .bool false]) (ret_two rfl rfl b9 Try.underlying27 rfl sizeIdn rfl) rfl ⟨rfl, hB9⟩
      | false =>
        cases t4 with
        | true =>
          have n4 : (c.epoch : Int) = 4294967295 := by have := of_decide_eq_true ht4; omega
          rw [n4] at c1
          clear ht4
          obtain ⟨rfl, rfl⟩ : P = Idn.zero ∧ B = false := by
            have e : proB c m = false := by rw [HE.out]; rfl
            rw [← HP.out, ← HQ.out, propI, e]
            exact ⟨rfl, rfl⟩
          clear HP HQ HE
          go_wp2_with (first | (refine build_as rfl 27 #[] rfl (C := Idn.zero.arr) ?_ ?_; kernel_rfl) | (refine store_part rfl 27 _ _ rfl (off := 0) (cells := Idn.zero.arr) a2 rfl rfl sizeIdn (Nat.le_refl _) Idn.zero.arr_one ?_; intro w9 b9 k9; rw [Idn.all] at b9; have hB9 : Below w.heap.size w w9 := hB.trans (k9.below1 (by omega) hB.size)))
          exact bodyPost_ret (w := w9) (v := .tuple #[.agg Idn.zero.arr, .bool false]) (ret_two rfl rfl b9 Try.underlying27 rfl sizeIdn rfl) rfl ⟨rfl, hB9⟩
        | false =>
          have n4 : ((c.epoch : Int) == 4294967295) = false := by rw [beq_eq_false_iff_ne]; have := of_decide_eq_false ht4; omega
          have n5 : c.epoch < 4294967295 := by have := of_decide_eq_false ht4; omega
          obtain ⟨v, hv⟩ : ∃ v, c.epoch + 1 = v := ⟨_, rfl⟩
          have hw1 : IntKind.u32.wrap ((c.epoch : Int) + 1) = (v : Int) := by rw [IntKind.wrap_u32]; omega
          have hw2 : IntKind.u32.wrap (s : Int) = (s : Int) := by rw [IntKind.wrap_u32]; omega
          obtain ⟨rfl, rfl⟩ : P = ⟨v, s, c.own⟩ ∧ B = true := by
            have e : proB c m = true := by rw [HE.out]; rfl
            rw [← HP.out, ← HQ.out, propI, e, hc, ← hv]
            exact ⟨rfl, rfl⟩
          clear ht4 HP HQ HE n5 hv he
          go_wp2_with (first | (refine build_as rfl 27 #[(0, .tmp 34), (1, .tmp 37), (2, .tmp 39)] rfl (C := (Idn.mk v s c.own).arr) ?_ ?_; kernel_rfl) | (refine store_part rfl 27 _ _ rfl (off := 0) (cells := (Idn.mk v s c.own).arr) a2 rfl rfl sizeIdn (Nat.le_refl _) (Idn.mk v s c.own).arr_one ?_; intro w9 b9 k9; rw [Idn.all] at b9; have hB9 : Below w.heap.size w w9 := hB.trans (k9.below1 (by omega) hB.size)))
          exact bodyPost_ret (w := w9) (v := .tuple #[.agg (Idn.mk v s c.own).arr, .bool true]) (ret_two rfl rfl b9 Try.underlying27 rfl sizeIdn rfl) rfl ⟨rfl, hB9⟩

end Go.Proofs.Ythgmecgknhphmaa
