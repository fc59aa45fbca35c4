/-
  How many lie ahead of a place, what is missing, and what is left behind a place: what the calls answer.
  Counts and rounds are such as a uint32 holds.
-/
import Derived.Test.YtodemfkjieonoaaCtB
import Derived.Test.YtodemfkjieonoaaLk
namespace Go.Proofs.Ytodemfkjieonoaa
set_option maxRecDepth 10000
open Go.RowKit Go.Sort
set_option linter.unusedVariables false

def lenOf : Value → Nat
  | .slice _ n _ => n
  | _ => 0

theorem infoPl : ∃ i z, Try.prog.info? 28 = some i ∧ i.zero = some z ∧ i.size = 3 ∧ i.bytes = 24 ∧ z.cells.size = 3 := by
  have h : (Try.prog.info? 28).map (fun i => (i.zero, i.size, i.bytes)) = some (some (.agg Pl.zero.arr), 3, 24) := by kernel_rfl
  obtain ⟨i, hi, h0, h1, h2⟩ := info_parts h
  exact ⟨i, _, hi, h0, h1, h2, rfl⟩
theorem bsPl (x : Pl) (w : World) : (Instr.buildSlice 36 1 #[(0, .agg x.arr)]).run Try.prog w = .ok (.slice (some ⟨w.heap.size, 0, none⟩) 1 1) (w.alloc (.cells x.arr 28)) := by kernel_rfl
theorem bsNoPl (w : World) : (Instr.buildSlice 36 0 #[]).run Try.prog w = .ok (.slice (some ⟨w.heap.size, 0, none⟩) 0 0) (w.alloc (.cells #[] 28)) := by kernel_rfl
theorem box_pl {ops : Array Oper} {rest : List Oper} {op : Oper} {a : Act} {w : World} {Q : Exit → Act → World → Prop} (hgd : op.guard = none) (y : Operand) (ho : op.op = .buildSlice 36 1 #[(0, y)]) (x : Pl) (hx : a.eval y = .agg x.arr)
    (h : wpList Try.prog ops Q rest (a.put op.dst (.slice (some ⟨w.heap.size, 0, none⟩) 1 1)) (w.alloc (.cells x.arr 28))) : wpList Try.prog ops Q (op :: rest) a w :=
  wpList_plain hgd fun _ hK => by
    have hk := hK _ _ h
    unfold Oper.wp execOp
    simp only [ho, List.map_toArray, List.map_cons, List.map_nil, hx, Sem.run_bind, Sem.run_pure, bsPl, Result.andThen_ok]
    exact hk
theorem box_nopl {ops : Array Oper} {rest : List Oper} {op : Oper} {a : Act} {w : World} {Q : Exit → Act → World → Prop} (hgd : op.guard = none) (ho : op.op = .buildSlice 36 0 #[])
    (h : wpList Try.prog ops Q rest (a.put op.dst (.slice (some ⟨w.heap.size, 0, none⟩) 0 0)) (w.alloc (.cells #[] 28))) : wpList Try.prog ops Q (op :: rest) a w :=
  wpList_plain hgd fun _ hK => by
    have hk := hK _ _ h
    unfold Oper.wp execOp
    simp only [ho, List.map_toArray, List.map_nil, Sem.run_bind, Sem.run_pure, bsNoPl, Result.andThen_ok]
    exact hk

/- A list of places that was made since. -/
def Placed (L : List Pl) (B : Nat) (e : Ending) (w' : World) : Prop := ∃ a c, e = .returned (.slice a L.length c) ∧ L.length ≤ c ∧ Li Pl.vals B a L w'
theorem Placed.below {L : List Pl} {B : Nat} {e : Ending} {w w' : World} (h : Placed L B e w) (hb : Below w.heap.size w w') : Placed L B e w' := by
  obtain ⟨a, c, h1, h2, h3⟩ := h
  exact ⟨a, c, h1, h2, h3.below hb⟩

def aheadTo (g : Pl) (j : Nat) : Nat → Nat := fun i => if i < j then aheadC g i else 0
theorem aheadTo_zero (g : Pl) : mbc (aheadTo g 0) = mbc noMb := mbc_ext fun i _ => by simp [aheadTo, noMb]
theorem aheadTo_full (g : Pl) : mbc (aheadTo g 8) = mbc (aheadC g) := mbc_ext fun i hi => by simp [aheadTo, hi]
theorem aheadTo_put (g : Pl) (j v : Nat) (hv : aheadC g j = v) : mbc (fun i => if i = j then v else aheadTo g j i) = mbc (aheadTo g (j + 1)) := mbc_ext fun i _ => by
  simp only [aheadTo]
  by_cases e : i = j
  · subst e
    rw [if_pos rfl, if_pos (by omega), hv]
  · by_cases l : i < j
    · simp [e, l, show i < j + 1 by omega]
    · simp [e, l, show ¬ i < j + 1 by omega]
theorem aheadTo_put2 (g : Pl) (j u v : Nat) (hv : aheadC g j = v) : mbc (fun i => if i = j then v else (fun i => if i = j then u else aheadTo g j i) i) = mbc (aheadTo g (j + 1)) := by
  rw [← aheadTo_put g j v hv]
  refine mbc_ext fun i _ => ?_
  by_cases e : i = j
  · simp [e]
  · simp [e]

set_option maxHeartbeats 4000000 in
theorem ahead_ok (g : Pl) (hg : g.r < 4294967296) (w : World) : Calls Try.prog 22 #[.agg g.arr] w fun e w' => e = .returned (.agg (mbc (aheadC g))) ∧ Below w.heap.size w w' := by
  obtain ⟨a0, a1, a2, hB⟩ := three_blk (T0 := 28) (T1 := 25) (T2 := 25) (C0 := g.arr) (C1 := mbc noMb) (C2 := mbc noMb) (w := w) rfl
  rw [← aheadTo_zero g] at a2
  obtain ⟨R, hR⟩ : ∃ R, Hid (aheadC g = R) := ⟨_, rfl⟩
  rw [hR.out]
  have HG : Hid (g.r < 4294967296) := hg
  clear hg
  go_enter Try.func22, Try.ntmps22
  go_upto_region 2 with (refine alloc_zero zeroCt rfl rfl ?_)
  try simp only [Act.put, List.setIfInBounds_toArray, List.set_cons_zero, List.set_cons_succ]
  try simp only [alloc_size]
  rw [aheadTo_zero] at a2
  generalize ((w.alloc (Obj.cells g.arr 28)).alloc (Obj.cells (mbc noMb) 25)).alloc (Obj.cells (mbc noMb) 25) = W at a0 a1 a2 hB ⊢
  rw [← aheadTo_zero g] at a2
  go_wp2_with fail
  go_loopw [5] (fun iv wr => ∃ j : Nat, j ≤ 8 ∧ iv = .int .i64 j ∧ Blk w.heap.size g.arr 28 wr ∧ Blk (w.heap.size + 1) (mbc noMb) 25 wr ∧ Blk (w.heap.size + 1 + 1) (mbc (aheadTo g j)) 25 wr ∧ Below w.heap.size w wr) (fun iv _ => 8 - (intOf iv).toNat)
  case atStart => exact ⟨0, by omega, rfl, a0, a1, a2, hB⟩
  case round =>
    clear a0 a1 a2 hB
    obtain ⟨j, hj, rfl, a0, a1, a2, hB⟩ := hrel
    by_cases hj8 : j < 8
    · have j0 : (j : Int) < 8 := by omega
      have j1 : (0 : Int) ≤ (j : Int) := by omega
      have c0 := a0.cell 0 (.int .u32 (g.r : Int)) rfl
      by_cases hz : g.r = 0
      · have hs := aheadTo_put g j g.r (by rw [aheadC, if_neg (by omega)])
        have g1 : ¬ (0 : Int) < (g.r : Int) := by omega
        clear hz
        go_upto_region 6 with (refine store_one rfl 23 _ _ rfl (off := j) (.int .u32 (g.r : Int)) a2 rfl rfl rfl rfl sizeU32 (by rw [mbc_size]; omega) ?_; intro w2 b2 k2; rw [mbc_set _ j g.r hj8] at b2; have e0 := a0.kp1 k2 (by omega); have e1 := a1.kp1 k2 (by omega); have hE : Below w.heap.size w w2 := hB.trans (k2.below1 (by omega) hB.size))
        rw [hs] at b2
        clear a0 a1 a2 c0 hB
        have c0 := e0.cell 0 (.int .u32 (g.r : Int)) rfl
        go_wp2_with fail
        exact ⟨⟨j + 1, by omega, by go_num, e0, e1, b2, hE⟩, by simp [intOf]; omega⟩
      · have g1 : (0 : Int) < (g.r : Int) := by omega
        have pb := bef_ok ⟨g.r, (j : Int), 0⟩ g
        by_cases hlt : befB ⟨g.r, (j : Int), 0⟩ g = true
        · have hs := aheadTo_put g j g.r (by rw [aheadC, if_neg (by rw [hlt]; simp)])
          rw [hlt] at pb
          clear hz hlt
          go_upto_region 6 with (refine store_one rfl 23 _ _ rfl (off := j) (.int .u32 (g.r : Int)) a2 rfl rfl rfl rfl sizeU32 (by rw [mbc_size]; omega) ?_; intro w2 b2 k2; rw [mbc_set _ j g.r hj8] at b2; have e0 := a0.kp1 k2 (by omega); have e1 := a1.kp1 k2 (by omega); have hE : Below w.heap.size w w2 := hB.trans (k2.below1 (by omega) hB.size))
          rw [hs] at b2
          clear a0 a1 a2 c0 hB
          have c0 := e0.cell 0 (.int .u32 (g.r : Int)) rfl
          go_wp2_with (first | refine build_want rfl 28 #[(0, .tmp 17), (1, .tmp 18)] rfl (C := (Pl.mk g.r (j : Int) 0).arr) (builtPl2 g.r j) ?_ | refine load_want rfl 28 _ rfl e0 rfl Try.underlying28 rfl sizePl ?_)
          refine (pb _).mono ?_
          rintro r w3 ⟨rfl, hb⟩
          replace e0 := e0.below hb
          replace e1 := e1.below hb
          replace b2 := b2.below hb
          replace hE := hE.trans (hb.mono hE.size)
          clear hb pb c0
          go_wp2_with fail
          exact ⟨⟨j + 1, by omega, by go_num, e0, e1, b2, hE⟩, by simp [intOf]; omega⟩
        · have hlt : befB ⟨g.r, (j : Int), 0⟩ g = false := by simpa using hlt
          obtain ⟨x, hx⟩ : ∃ x, g.r - 1 = x := ⟨_, rfl⟩
          have hs := aheadTo_put2 g j g.r x (by rw [aheadC, if_pos ⟨by omega, hlt⟩, hx])
          have g2 : IntKind.u32.wrap ((g.r : Int) - 1) = (x : Int) := by have := HG.out; rw [IntKind.wrap_u32]; omega
          rw [hlt] at pb
          clear hz hlt hx
          go_upto_region 6 with (refine store_one rfl 23 _ _ rfl (off := j) (.int .u32 (g.r : Int)) a2 rfl rfl rfl rfl sizeU32 (by rw [mbc_size]; omega) ?_; intro w2 b2 k2; rw [mbc_set _ j g.r hj8] at b2; have e0 := a0.kp1 k2 (by omega); have e1 := a1.kp1 k2 (by omega); have hE : Below w.heap.size w w2 := hB.trans (k2.below1 (by omega) hB.size))
          clear a0 a1 a2 c0 hB
          have c0 := e0.cell 0 (.int .u32 (g.r : Int)) rfl
          go_wp2_with (first | refine build_want rfl 28 #[(0, .tmp 17), (1, .tmp 18)] rfl (C := (Pl.mk g.r (j : Int) 0).arr) (builtPl2 g.r j) ?_ | refine load_want rfl 28 _ rfl e0 rfl Try.underlying28 rfl sizePl ?_)
          refine (pb _).mono ?_
          rintro r w3 ⟨rfl, hb⟩
          have a0 := e0.below hb
          have a1 := e1.below hb
          have a2 := b2.below hb
          have hB := hE.trans (hb.mono hE.size)
          clear hb pb c0 e0 e1 b2 hE k2
          have c1 := a2.cell j (.int .u32 (g.r : Int)) (by rw [mbc_get _ j hj8, if_pos rfl])
          go_wp2_with (refine store_one rfl 23 _ _ rfl (off := j) (.int .u32 (x : Int)) a2 rfl rfl rfl rfl sizeU32 (by rw [mbc_size]; omega) ?_; intro w4 b2 k2; rw [mbc_set _ j x hj8] at b2; have e0 := a0.kp1 k2 (by omega); have e1 := a1.kp1 k2 (by omega); have hE : Below w.heap.size w w4 := hB.trans (k2.below1 (by omega) hB.size))
          rw [hs] at b2
          exact ⟨⟨j + 1, by omega, by go_num, e0, e1, b2, hE⟩, by simp [intOf]; omega⟩
    · obtain rfl : j = 8 := by omega
      rw [aheadTo_full, hR.out] at a2
      have hpa : putAt (mbc noMb) 0 (mbc R).toList = mbc R := putAt_all _ _ rfl
      clear a0 hR HG
      go_wp2_with (first | refine load_blk rfl 25 _ rfl a2 rfl Try.underlying25 rfl sizeCt ?_ | (refine store_part rfl 25 _ _ rfl (off := 0) (cells := mbc R) a1 rfl rfl sizeCt (Nat.le_refl _) (mbc_one _) ?_; intro w2 b2 k2; rw [hpa] at b2; have hB2 : Below w.heap.size w w2 := hB.trans (k2.below1 (by omega) hB.size)))
      exact bodyPost_ret (w := w2) (v := .agg (mbc R)) (ret_one rfl rfl b2 Try.underlying25 rfl sizeCt) rfl ⟨rfl, hB2⟩

set_option maxHeartbeats 8000000 in
theorem missing_ok (c most m : Nat → Nat) (hm : ∀ i, most i < 4294967296) (w : World) : Calls Try.prog 14 #[.agg (mbc c), .agg (mbc most), .agg (mbc m)] w fun e w' => Placed (missL most m 100 c) w.heap.size e w' ∧ Below w.heap.size w w' := by
  obtain ⟨a0, a1, a2, hB⟩ := three_blk (T0 := 25) (T1 := 25) (T2 := 26) (C0 := mbc c) (C1 := mbc most) (C2 := mbc m) (w := w) rfl
  obtain ⟨R, hR⟩ : ∃ R, Hid (missL most m 100 c = R) := ⟨_, rfl⟩
  rw [hR.out]
  have HC : Hid (∀ i, most i < 4294967296) := hm
  clear hm
  obtain ⟨iI, zI, hI, hz0, hsz, hby, hzs⟩ := infoPl
  go_enter Try.func14, Try.ntmps14
  go_upto_region 1 with fail
  generalize ((w.alloc (Obj.cells (mbc c) 25)).alloc (Obj.cells (mbc most) 25)).alloc (Obj.cells (mbc m) 26) = W at a0 a1 a2 hB ⊢
  have hW0 := a0.lt
  have hW1 := a1.lt
  have hW2 := a2.lt
  go_wp2_with fail
  go_loopw [7] (fun sv wr => ∃ (n cap : Nat) (ad : Option Addr) (P : List Pl) (k : Nat → Nat), n ≤ 100 ∧ sv = .slice ad n cap ∧ Hid (P.length = n) ∧ Hid (R = P ++ missL most m (100 - n) k) ∧ Lg Pl.vals 3 28 W.heap.size ad cap P wr ∧ W.heap.size ≤ wr.heap.size ∧ Blk w.heap.size (mbc k) 25 wr ∧ Blk (w.heap.size + 1) (mbc most) 25 wr ∧ Blk (w.heap.size + 1 + 1) (mbc m) 26 wr ∧ Below w.heap.size w wr) (fun sv _ => 100 - lenOf sv)
  case atStart => exact ⟨0, 0, none, [], c, by omega, rfl, rfl, hR.out.symm, Lg.none _ _ _, Nat.le_refl _, a0, a1, a2, hB⟩
  case round =>
    clear a0 a1 a2 hB
    obtain ⟨n, cap, ad, P, k, hn, rfl, hlen, hq, lg, hs, a0, a1, a2, hB⟩ := hrel
    by_cases hn1 : n < 100
    · have n1 : (n : Int) < 100 := by omega
      go_wp2_with (first | refine load_blk rfl 25 _ rfl a0 rfl Try.underlying25 rfl sizeCt ?_ | refine load_blk rfl 25 _ rfl a1 rfl Try.underlying25 rfl sizeCt ?_ | refine load_blk rfl 26 _ rfl a2 rfl Try.underlying26 rfl sizeMb ?_)
      refine (first_ok k most m HC.out _).mono ?_
      rintro r w1 ⟨rfl, hb⟩
      replace a0 := a0.below hb
      replace a1 := a1.below hb
      replace a2 := a2.below hb
      replace lg := lg.below hb
      replace hB := hB.trans (hb.mono hB.size)
      replace hs := Nat.le_trans hs hb.size
      clear hb
      cases hf : fstM k most m with
      | none =>
        have hfin : R = P := by rw [hq.out, missL_none _ _ _ _ hf, List.append_nil]
        clear hf hq
        subst hfin
        have hpl : Placed R w.heap.size (.returned (.slice ad n cap)) w1 := ⟨ad, cap, by rw [hlen.out], lg.cap, lg.li.mono (by omega)⟩
        have hb := below_box w1 (.cells Pl.zero.arr 28)
        replace hpl := hpl.below hb
        replace hB := hB.trans (hb.mono hB.size)
        clear hb lg a0 a1 a2 hI hlen
        go_wp2_with (first | refine alloc_zero zeroPl rfl rfl ?_ | refine store_new rfl 28 _ _ rfl (cells := Pl.zero.arr) rfl rfl sizePl rfl (Pl.arr_one _) ?_)
        go_ret
        exact ⟨hpl, hB⟩
      | some p =>
        obtain ⟨d, _, hd8, hlt, hp, _⟩ := fstM_some k most m p hf
        obtain ⟨x, hx⟩ : ∃ x, k d + 1 = x := ⟨_, rfl⟩
        rw [hx] at hp
        subst hp
        have hst := missL_some most m (100 - n - 1) k _ hf
        rw [show 100 - n - 1 + 1 = 100 - n by omega, Int.toNat_natCast] at hst
        have HQ : Hid (R = (P ++ [⟨x, (d : Int), 0⟩]) ++ missL most m (100 - (n + 1)) (putC k d x)) := show R = _ from by rw [hq.out, hst, show 100 - (n + 1) = 100 - n - 1 by omega, List.append_assoc]; rfl
        clear hst hq hf hlt hx
        have i0 : (d : Int) < 8 := by omega
        have i1 : (0 : Int) ≤ (d : Int) := by omega
        simp only [atP, Option.isSome_some]
        have d8 := blk_new w1 (Pl.mk x (d : Int) 0).arr 28
        have hb := below_box w1 (.cells (Pl.mk x (d : Int) 0).arr 28)
        have n8 : w1.heap.size ∉ blkOf ad := fun hm => by have := (lg.in _ hm).2; omega
        have n0 : w.heap.size ∉ blkOf ad := fun hm => by have := (lg.in _ hm).1; omega
        have n1' : (w.heap.size + 1) ∉ blkOf ad := fun hm => by have := (lg.in _ hm).1; omega
        have n2 : (w.heap.size + 1 + 1) ∉ blkOf ad := fun hm => by have := (lg.in _ hm).1; omega
        have nB : ∀ j ∈ blkOf ad, w.heap.size ≤ j := fun j hm => by have := (lg.in _ hm).1; omega
        replace a0 := a0.below hb
        replace a1 := a1.below hb
        replace a2 := a2.below hb
        replace lg := lg.below hb
        replace hB := hB.trans (hb.mono hB.size)
        have hs1 := Nat.le_trans hs hb.size
        clear hb
        go_upto_region 4 with (first | refine alloc_zero zeroPl rfl rfl ?_ | refine store_new rfl 28 _ _ rfl (cells := (Pl.mk x (d : Int) 0).arr) rfl rfl sizePl rfl (Pl.arr_one _) ?_)
        try simp only [Act.put, List.setIfInBounds_toArray, List.set_cons_zero, List.set_cons_succ]
        generalize w1.alloc (Obj.cells (Pl.mk x (d : Int) 0).arr 28) = V at d8 a0 a1 a2 lg hB hs1 ⊢
        generalize w1.heap.size = vs at d8 n8 hs ⊢
        have hb := below_box V (.cells (Pl.mk x (d : Int) 0).arr 28)
        have d0 := a0.below hb
        have d1 := a1.below hb
        have d2 := a2.below hb
        have d8' := d8.below hb
        have dg := lg.below hb
        have hD := hB.trans (hb.mono hB.size)
        have hs2 := Nat.le_trans hs1 hb.size
        have hx := (li_box (f := Pl.vals) V ⟨x, (d : Int), 0⟩ 28 0 (Nat.zero_le _)).src (P := Try.prog) Pl.vals_length Pl.vals_one Try.underlying36 1
        clear hb a0 a1 a2 lg hB
        go_upto_region 6 with (first | refine load_blk rfl 28 _ rfl d8 rfl Try.underlying28 rfl sizePl ?_ | refine box_pl rfl _ rfl ⟨x, (d : Int), 0⟩ rfl ?_ | (refine append_lk Pl.vals_length rfl _ _ rfl Try.underlying36 hI hz0 hsz hby hzs dg hs2 hlen rfl (M := [⟨x, (d : Int), 0⟩]) (by simp) hx rfl (by simp; omega) (by simp [maxLen]; omega) ?_; intro ad' cap' w5 hg5 hk5; have f0 := d0.kp hk5 n0; have f1 := d1.kp hk5 n1'; have f2 := d2.kp hk5 n2; have f8 := d8'.kp hk5 n8; have hF : Below w.heap.size w w5 := hD.trans (hk5.below nB hD.size); have hs6 : W.heap.size ≤ w5.heap.size := Nat.le_trans hs2 hk5.size))
        try simp only [Act.put, List.setIfInBounds_toArray, List.set_cons_zero, List.set_cons_succ]
        clear d0 d1 d2 d8 d8' dg hD hx hI
        have c0 := f8.cell 0 (.int .u32 (x : Int)) rfl
        have c1 := f8.cell 1 (.int .i64 (d : Int)) rfl
        have hst : (mbc k).setIfInBounds d (.int .u32 (x : Int)) = mbc (putC k d x) := mbc_set k d x hd8
        have HL : Hid ((P ++ [Pl.mk x (d : Int) 0]).length = n + 1) := by rw [List.length_append, hlen.out]; rfl
        have hlg := hg5.in
        have m1 : (w.heap.size + 1) ≠ w.heap.size := by omega
        go_wp2_with (refine store_one rfl 23 _ _ rfl (off := d) (.int .u32 (x : Int)) f0 rfl rfl rfl rfl sizeU32 (by rw [mbc_size]; omega) ?_; intro w9 b9 k9; rw [hst] at b9; have g1 := f1.kp1 k9 (by omega); have g2 := f2.kp1 k9 (by omega); have gg := hg5.kp k9 (fun k hk => by simp at hk; omega); have hs9 := Nat.le_trans hs6 k9.size; have hB9 : Below w.heap.size w w9 := hF.trans (k9.below1 (Nat.le_refl _) hF.size); simp only [Act.put])
        exact ⟨⟨n + 1, cap', ad', P ++ [⟨x, (d : Int), 0⟩], putC k d x, by omega, rfl, HL, HQ, gg, hs9, b9, g1, g2, hB9⟩, by simp [lenOf]; omega⟩
    · obtain rfl : n = 100 := by omega
      have hfin : R = P := by rw [hq.out]; exact List.append_nil _
      clear hq
      subst hfin
      have hpl : Placed R w.heap.size (.returned (.slice ad 100 cap)) wr := ⟨ad, cap, by rw [hlen.out], lg.cap, lg.li.mono (by omega)⟩
      clear lg a0 a1 a2 hI hlen
      go_wp2_with fail
      go_ret
      exact ⟨hpl, hB⟩

set_option maxHeartbeats 4000000 in
theorem rest_ok (g : Pl) (hg : g.r < 4294967296) (most m : Nat → Nat) (hm : ∀ i, most i < 4294967296) (w : World) : Calls Try.prog 16 #[.agg g.arr, .agg (mbc most), .agg (mbc m)] w fun e w' => Placed (missL most m 100 (aheadC g)) w.heap.size e w' ∧ Below w.heap.size w w' := by
  obtain ⟨a0, a1, a2, hB⟩ := three_blk (T0 := 28) (T1 := 25) (T2 := 26) (C0 := g.arr) (C1 := mbc most) (C2 := mbc m) (w := w) rfl
  have pA := ahead_ok g hg
  have pM := missing_ok (aheadC g) most m hm
  unfold Placed at pM
  clear hg hm
  go_enter Try.func16, Try.ntmps16
  go_upto_region 1 with fail
  generalize ((w.alloc (Obj.cells g.arr 28)).alloc (Obj.cells (mbc most) 25)).alloc (Obj.cells (mbc m) 26) = W at a0 a1 a2 hB ⊢
  have hC0 := hB.drew
  refine wp_region_held_drew (S := fun w' => Blk w.heap.size g.arr 28 w' ∧ Blk (w.heap.size + 1) (mbc most) 25 w' ∧ Blk (w.heap.size + 1 + 1) (mbc m) 26 w') (by kernel_rfl) ⟨a0.drew, a1.drew, a2.drew⟩ (fun hHeld => ?_)
  refine' wpAnyH_take (i := 0) (v := _) rfl (by kernel_rfl) (by kernel_rfl) (by kernel_rfl) (fun _ _ _ h => h) (yieldsIf_load_mid (by rfl) _ _ rfl w.heap.size 0 rfl g.vals _ ?hS1 Try.underlying28 rfl sizePl) hHeld ?rest1
  case hS1 => exact fun w h => h.1.whole
  try simp only [List.getElem_toArray]
  try simp only [List.getElem_cons_succ]
  try simp only [List.getElem_cons_zero]
  try simp only [Act.put]
  try simp only [List.setIfInBounds_toArray]
  try simp only [List.set_cons_succ]
  try simp only [List.set_cons_zero]
  refine' wpAnyH_take (i := 2) (v := _) rfl (by kernel_rfl) (by kernel_rfl) (by kernel_rfl) (fun _ _ _ h => h) (yieldsIf_load_mid (by rfl) _ _ rfl (w.heap.size + 1) 0 rfl (row8 most) _ ?hS2 Try.underlying25 rfl sizeCt) hHeld ?rest2
  case hS2 => exact fun w h => h.2.1.whole
  try simp only [List.getElem_toArray]
  try simp only [List.getElem_cons_succ]
  try simp only [List.getElem_cons_zero]
  try simp only [Act.put]
  try simp only [List.setIfInBounds_toArray]
  try simp only [List.set_cons_succ]
  try simp only [List.set_cons_zero]
  refine' wpAnyH_take (i := 3) (v := _) rfl (by kernel_rfl) (by kernel_rfl) (by kernel_rfl) (fun _ _ _ h => h) (yieldsIf_load_mid (by rfl) _ _ rfl (w.heap.size + 1 + 1) 0 rfl (row8 m) _ ?hS3 Try.underlying26 rfl sizeMb) hHeld ?rest3
  case hS3 => exact fun w h => h.2.2.whole
  try simp only [List.getElem_toArray]
  try simp only [List.getElem_cons_succ]
  try simp only [List.getElem_cons_zero]
  try simp only [Act.put]
  try simp only [List.setIfInBounds_toArray]
  try simp only [List.set_cons_succ]
  try simp only [List.set_cons_zero]
  refine wpAnyH_ready (rs := [1]) (by kernel_rfl) (by simp) ?_
  refine AllReadyH.cons rfl (fun K hK => ?_) (AllReadyH.nil)
  go_simp
  go_wp2_with (refine (pA _).mono ?_; rintro r u1 ⟨rfl, hb⟩)
  have hC1 := hC0.trans (hb.mono hC0.size)
  refine hK.out _ _ ⟨hHeld.1.below hb, hHeld.2.1.below hb, hHeld.2.2.below hb⟩ (fun hHeld => ?_)
  clear hK K hb hC0
  refine wpAnyH_ready (rs := [4]) (by kernel_rfl) (by simp) ?_
  refine AllReadyH.cons rfl (fun K hK => ?_) (AllReadyH.nil)
  go_simp
  go_wp2_with (refine (pM _).mono ?_; rintro r u2 ⟨⟨la, lc, rfl, lcap, hq⟩, hb⟩)
  have hpl : Placed (missL most m 100 (aheadC g)) w.heap.size (.returned (.slice la (missL most m 100 (aheadC g)).length lc)) u2 := ⟨la, lc, rfl, lcap, hq.mono hC1.size⟩
  clear hq lcap
  have hC2 := hC1.trans (hb.mono hC1.size)
  refine hK.out _ _ ⟨hHeld.1.below hb, hHeld.2.1.below hb, hHeld.2.2.below hb⟩ (fun hHeld => ?_)
  clear hK K hb hC1
  refine wpAnyH_take (i := 5) (v := ?v4) rfl (by kernel_rfl) (by kernel_rfl) (by kernel_rfl) (fun _ _ _ h => h) (Or.inl ⟨by rfl, ?hy4⟩) hHeld ?rest4
  case hy4 => (intro w hSw; clear hSw; go_simp; try with_reducible rfl)
  try simp only [List.getElem_toArray]
  try simp only [List.getElem_cons_succ]
  try simp only [List.getElem_cons_zero]
  try simp only [Act.put]
  try simp only [List.setIfInBounds_toArray]
  try simp only [List.set_cons_succ]
  try simp only [List.set_cons_zero]
  refine wpAnyH_done (by kernel_rfl) ?_ _
  go_wp2_with fail
  go_ret
  exact ⟨hpl, hC2⟩

end Go.Proofs.Ytodemfkjieonoaa
