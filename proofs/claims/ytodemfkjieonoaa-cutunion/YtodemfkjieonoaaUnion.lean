/-
  All are within their union, and it is within all that all are within, in whatever order, however often, they come, and however they are put together in parts: the law CutUnion returns true for every input.
  No condition beyond the form's own.
-/
import Derived.Test.YtodemfkjieonoaaRows
import Derived.Test.YtodemfkjieonoaaCtF
import Derived.Test.YtodemfkjieonoaaCtT
import Derived.WalkKit
import Derived.ProofKit
import Derived.OpenShut
import Derived.ShutString
import Derived.SizedLaws
import Derived.ChangeOld
import Derived.Below
namespace Go.Proofs.Ytodemfkjieonoaa.cutUnion
open Go.Sort Go.ChangeShapes Go.WideShapes Go.ChangeAt Go.RowKit
open Go.ChangeMaps (open_string shut_string)
set_option linter.unusedVariables false
set_option maxRecDepth 10000

theorem own : ownKnob Try.prog.godebug = none := by kernel_rfl
theorem length_bytes (s : ByteArray) : s.data.toList.length = s.size := by rw [Array.length_toList]; rfl

theorem fold_max (L : List (Nat → Nat)) : ∀ a, L.foldl maxC a = maxC a (unionL L) := by
  induction L with
  | nil => intro a; funext i; simp [unionL, maxC, noMb]
  | cons x l ih =>
    intro a
    show l.foldl maxC (maxC a x) = maxC a (l.foldl maxC (maxC noMb x))
    rw [ih, ih (maxC noMb x)]
    funext i
    simp only [maxC, noMb]
    omega
theorem union_both (M L : List (Nat → Nat)) : unionL (M ++ L) = maxC (unionL M) (unionL L) := by
  rw [unionL, List.foldl_append, fold_max]; rfl
theorem union_cons (x : Nat → Nat) (l : List (Nat → Nat)) : unionL (x :: l) = maxC x (unionL l) := by
  show l.foldl maxC (maxC noMb x) = _
  rw [fold_max]
  funext i
  simp [maxC, noMb]
theorem union_two (x y : Nat → Nat) : unionL [x, y] = maxC x y := by
  rw [union_cons, union_cons]
  funext i
  simp [maxC, unionL, noMb]
theorem union_in (L : List (Nat → Nat)) (c : Nat → Nat) (h : c ∈ L) : withB c (unionL L) = true := by
  rw [withB_iff]
  induction L with
  | nil => cases h
  | cons x l ih =>
    intro i hi
    rw [union_cons]
    rcases List.mem_cons.1 h with rfl | h
    · exact Nat.le_max_left _ _
    · exact Nat.le_trans (ih h i hi) (Nat.le_max_right _ _)
def allB (L : List (Nat → Nat)) (b : Nat → Nat) : Bool := L.all fun c => withB c b
theorem union_all (L : List (Nat → Nat)) (b : Nat → Nat) : withB (unionL L) b = allB L b := by
  rw [Bool.eq_iff_iff, withB_iff, allB, List.all_eq_true]
  induction L with
  | nil => simp [unionL, noMb]
  | cons x l ih =>
    rw [union_cons]
    constructor
    · intro h c hc
      rcases List.mem_cons.1 hc with rfl | hc
      · rw [withB_iff]
        exact fun i hi => Nat.le_trans (Nat.le_max_left _ _) (h i hi)
      · exact ih.1 (fun i hi => Nat.le_trans (Nat.le_max_right _ _) (h i hi)) c hc
    · intro h i hi
      exact Nat.max_le.2 ⟨(withB_iff x b).1 (h x (by simp)) i hi, ih.2 (fun c hc => h c (by simp [hc])) i hi⟩
theorem allB_take (L : List (Nat → Nat)) (b c : Nat → Nat) (j : Nat) (h : L[j]? = some c) : allB (L.take (j + 1)) b = (allB (L.take j) b && withB c b) := by
  rw [allB, List.take_add_one, h, List.all_append]
  simp [allB]
theorem wp_ct2 {o : Oper} {a : Act} {w : World} {K : Act → World → Prop} {Q : Exit → Act → World → Prop} (u v : Operand) (ho : o.op = .buildSlice 22 2 #[(0, u), (1, v)]) (x y : Nat → Nat) (hx : a.eval u = .agg (mbc x)) (hy : a.eval v = .agg (mbc y))
    (h : ∀ p W, Blk p (flat row8 [x, y]).toArray 25 W → Below w.heap.size w W → w.heap.size ≤ p → K (a.put o.dst (.slice (some ⟨p, 0, none⟩) 2 2)) W) : o.wp Try.prog a w K Q := by
  have hk := h _ _ (blk_new w (flat row8 [x, y]).toArray 25) (below_box w _) (Nat.le_refl _)
  unfold Oper.wp execOp
  simp only [ho, List.map_toArray, List.map_cons, List.map_nil, hx, hy, Sem.run_bind, Sem.run_pure, bsCt2, Result.andThen_ok]
  exact hk
theorem infoCt : ∃ i z, Try.prog.info? 25 = some i ∧ i.zero = some z ∧ i.size = 8 ∧ i.bytes = 32 ∧ z.cells.size = 8 := by
  have h : (Try.prog.info? 25).map (fun i => (i.zero, i.size, i.bytes)) = some (some (.agg (mbc noMb)), 8, 32) := by kernel_rfl
  obtain ⟨i, hi, h0, h1, h2⟩ := info_parts h
  exact ⟨i, _, hi, h0, h1, h2, rfl⟩
theorem bsNoCt (w : World) : (Instr.buildSlice 22 0 #[]).run Try.prog w = .ok (.slice (some ⟨w.heap.size, 0, none⟩) 0 0) (w.alloc (.cells #[] 25)) := by kernel_rfl
theorem box_noct {ops : Array Oper} {rest : List Oper} {op : Oper} {a : Act} {w : World} {Q : Exit → Act → World → Prop} (hgd : op.guard = none) (ho : op.op = .buildSlice 22 0 #[])
    (h : wpList Try.prog ops Q rest (a.put op.dst (.slice (some ⟨w.heap.size, 0, none⟩) 0 0)) (w.alloc (.cells #[] 25))) : wpList Try.prog ops Q (op :: rest) a w :=
  wpList_plain hgd fun _ hK => by
    have hk := hK _ _ h
    unfold Oper.wp execOp
    simp only [ho, List.map_toArray, List.map_nil, Sem.run_bind, Sem.run_pure, bsNoCt, Result.andThen_ok]
    exact hk

set_option maxHeartbeats 16000000 in
theorem walk (la : Option Addr) (L : List (Nat → Nat)) (lc : Nat) (lm : L.length ≤ maxLen) (ma : Option Addr) (M : List (Nat → Nat)) (mc : Nat) (mm : M.length ≤ maxLen) (b : Nat → Nat) (kb : ∀ i, b i < 4294967296) (w : World) (lS : Li row8 0 la L w) (mS : Li row8 0 ma M w) : Calls Try.prog 4 #[.slice la L.length lc, .slice ma M.length mc, .agg (mbc b)] w fun e w' => e = .returned (.bool true) ∧ Below w.heap.size w w' := by
  clear kb
  have pL := fun u hA => union_ok L la lc lm u hA
  have pM := fun u hA => union_ok M ma mc mm u hA
  have pWU := within_ok (unionL L) b
  rw [union_all] at pWU
  have HI : Hid (∀ c ∈ L, withB c (unionL L) = true) := fun c h => union_in L c h
  have p2 := fun xa u hA => union_ok [unionL L, unionL M] xa 2 (by simp) u hA
  have p3 := fun xa u hA => union_ok [unionL L, unionL L] xa 2 (by simp) u hA
  have kU : mbSame (unionL [unionL L, unionL M]) (unionL (M ++ L)) = true := by
    rw [union_two, union_both, mbSame_iff]
    intro i _
    simp only [maxC]
    omega
  have kV : mbSame (unionL [unionL L, unionL L]) (unionL L) = true := by
    rw [union_two, mbSame_iff]
    intro i _
    simp [maxC]
  replace kU := eqlCt _ _ true kU
  replace kV := eqlCt _ _ true kV
  rw [show [unionL L, unionL M].length = 2 from rfl] at p2
  rw [show [unionL L, unionL L].length = 2 from rfl] at p3
  have hL50 : L.length ≤ 50 → M.length ≤ 50 → (M ++ L).length ≤ 9223372036854775807 := fun h1 h2 => by rw [List.length_append]; omega
  have pB := fun (h : (M ++ L).length ≤ 9223372036854775807) xa xc u hA => union_ok (M ++ L) xa xc h u hA
  generalize unionL [unionL L, unionL M] = X at p2 kU
  generalize unionL [unionL L, unionL L] = Y at p3 kV
  generalize unionL (M ++ L) = Z at pB kU
  generalize unionL L = U at *
  generalize unionL M = V at *
  have kV2 : ∀ w, (binOp .eql 25 (.agg (mbc Y)) (.agg (row8 U).toArray)).run Try.prog w = .ok (.bool true) w := kV
  have hml : (M ++ L).length = M.length + L.length := List.length_append
  obtain ⟨n, hn⟩ : ∃ n, L.length = n := ⟨_, rfl⟩
  obtain ⟨k, hk⟩ : ∃ n, M.length = n := ⟨_, rfl⟩
  have HN : Hid (L.length = n ∧ M.length = k) := ⟨hn, hk⟩
  rw [hml] at pB hL50
  rw [hn] at pL pB hL50 lm ⊢
  rw [hk] at pM pB hL50 mm ⊢
  clear hn hk hml
  have a0 := blk_new w (mbc b) 25
  have hB : Below w.heap.size w (w.alloc (.cells (mbc b) 25)) := below_box w _
  obtain ⟨iI, zI, hI, hz0, hsz, hby, hzs⟩ := infoCt
  go_enter Try.func4, Try.ntmps4
  go_upto_region 1 with fail
  generalize w.alloc (Obj.cells (mbc b) 25) = W at a0 hB ⊢
  go_wp2_with fail
  refine (fixed_ok _).mono ?_
  rintro r w0 ⟨rfl, hb⟩
  replace a0 := a0.below hb
  replace hB := hB.trans (hb.mono hB.size)
  clear hb
  by_cases hn : n ≤ 50
  · have hn1 : ¬ (50 : Int) < (n : Int) := by omega
    by_cases hk : k ≤ 50
    · have hk1 : ¬ (50 : Int) < (k : Int) := by omega
      have pB := pB (hL50 hn hk)
      clear hL50
      go_wp2_with fail
      refine (pL _ (lS.below hB)).mono ?_
      rintro r w1 ⟨rfl, hb⟩
      replace a0 := a0.below hb
      replace hB := hB.trans (hb.mono hB.size)
      clear hb pL
      have a1 := blk_new w1 (mbc U) 25
      have hv := a0.lt
      have hb := below_box w1 (.cells (mbc U) 25)
      replace a0 := a0.below hb
      replace hB := hB.trans (hb.mono hB.size)
      clear hb
      go_upto_region 4 with (first | refine alloc_zero zeroCt rfl rfl ?_ | refine store_new rfl 25 _ _ rfl (cells := mbc U) rfl rfl sizeCt rfl (mbc_one _) ?_)
      try simp only [Act.put, List.setIfInBounds_toArray, List.set_cons_zero, List.set_cons_succ]
      generalize w1.alloc (Obj.cells (mbc U) 25) = W1 at a0 a1 hB ⊢
      generalize w1.heap.size = vs at a1 hv ⊢
      clear hn1 hk1
      go_wp2_with fail
      go_loopw [8, 9] (fun av iv wr => ∃ (j : Nat) (A : Bool), j ≤ n ∧ iv = .int .i64 j ∧ av = .bool A ∧ Hid (allB (L.take j) b = A) ∧ Blk w.heap.size (mbc b) 25 wr ∧ Blk vs (mbc U) 25 wr ∧ Below w.heap.size w wr) (fun _ iv _ => n - (intOf iv).toNat)
      case atStart => exact ⟨0, true, by omega, rfl, rfl, rfl, a0, a1, hB⟩
      case round =>
        clear a0 a1 hB
        obtain ⟨j, A, hj, rfl, rfl, hA, a0, a1, hB⟩ := hrel
        by_cases hjn : j < n
        · have j0 : (j : Int) < (n : Int) := by omega
          have j1 : (0 : Int) ≤ (j : Int) := by omega
          obtain ⟨c, hc⟩ : ∃ c, L[j]? = some c := ⟨_, List.getElem?_eq_getElem (by rw [HN.out.1]; exact hjn)⟩
          have hst := allB_take L b c j hc
          rw [hA.out] at hst
          have pIn := within_ok c U
          rw [HI.out c (List.mem_of_getElem? hc)] at pIn
          have pCb := within_ok c b
          obtain ⟨CB, hCB⟩ : ∃ x, withB c b = x := ⟨_, rfl⟩
          rw [hCB] at pCb hst
          obtain ⟨bb, oo, rfl, _, hbl0, hr0⟩ := lS.at row8_length j c hc
          have hr := range_block hr0 (hB.block bb hbl0)
          have hbl := Nat.lt_of_lt_of_le hbl0 hB.size
          have HS0 : Hid (allB (L.take (j + 1)) b = (A && CB)) := hst
          clear hst hCB hc hA
          go_upto_region 8 with fail
          try simp only [Act.put, List.setIfInBounds_toArray, List.set_cons_zero, List.set_cons_succ]
          have lz : ∀ w', (∃ p : Regrown, w' = grow (redrawn wr p.d) p.os) → w'.rangeAt bb (oo + j * 8) (row8 c) := fun w' ⟨p, e⟩ => e ▸ range_block hr ((below_regrown wr p.d p.os).block bb hbl)
          have ly := a1.regrown
          have r1 : ∀ d' os, Calls Try.prog 11 #[.agg (row8 c).toArray, .agg (mbc U)] (grow (redrawn wr d') os) fun e w'' => e = .returned (.bool true) ∧ ∃ p : Regrown, w'' = grow (redrawn wr p.d) p.os := fun d' os => Calls.regrown_of (pIn _)
          refine wp_region_quiet_below (by kernel_rfl) (by kernel_rfl) ?_
          repeat (first
            | (go_big_quiet_want; refine quiet_range (off := oo + j * 8) rfl rfl lz Try.underlying25 rfl sizeCt ?_; simp only [Act.put, List.setIfInBounds_toArray, List.set_cons_zero, List.set_cons_succ]; go_big_quiet_on)
            | (go_big_quiet_want; refine quiet_load rfl rfl ly Try.underlying25 rfl sizeCt ?_; simp only [Act.put, List.setIfInBounds_toArray, List.set_cons_zero, List.set_cons_succ]; go_big_quiet_on)
            | go_big_quiet_step (first | with_reducible exact r1 _ _))
          refine wpQuiet_nil ?_
          intro _ hw'
          obtain ⟨⟨dq, osq⟩, hw''⟩ := hw'
          have hb := below_regrown wr dq osq
          subst hw''
          generalize grow (redrawn wr dq) osq = w1 at hb ⊢
          replace a0 := a0.below hb
          replace a1 := a1.below hb
          replace hB := hB.trans (hb.mono hB.size)
          clear hb
          clear r1 lz ly
          have hr := range_block hr0 (hB.block bb hbl0)
          have hbl := Nat.lt_of_lt_of_le hbl0 hB.size
          cases A with
          | true =>
            have HS : Hid (allB (L.take (j + 1)) b = CB) := HS0
            clear HS0
            go_upto_region 10 with fail
            try simp only [Act.put, List.setIfInBounds_toArray, List.set_cons_zero, List.set_cons_succ]
            have lz : ∀ w', (∃ p : Regrown, w' = grow (redrawn w1 p.d) p.os) → w'.rangeAt bb (oo + j * 8) (row8 c) := fun w' ⟨p, e⟩ => e ▸ range_block hr ((below_regrown w1 p.d p.os).block bb hbl)
            have ly := a0.regrown
            have r1 : ∀ d' os, Calls Try.prog 11 #[.agg (row8 c).toArray, .agg (mbc b)] (grow (redrawn w1 d') os) fun e w'' => e = .returned (.bool CB) ∧ ∃ p : Regrown, w'' = grow (redrawn w1 p.d) p.os := fun d' os => Calls.regrown_of (pCb _)
            refine wp_region_quiet_below (by kernel_rfl) (by kernel_rfl) ?_
            repeat (first
              | (go_big_quiet_want; refine quiet_range (off := oo + j * 8) rfl rfl lz Try.underlying25 rfl sizeCt ?_; simp only [Act.put, List.setIfInBounds_toArray, List.set_cons_zero, List.set_cons_succ]; go_big_quiet_on)
              | (go_big_quiet_want; refine quiet_load rfl rfl ly Try.underlying25 rfl sizeCt ?_; simp only [Act.put, List.setIfInBounds_toArray, List.set_cons_zero, List.set_cons_succ]; go_big_quiet_on)
              | go_big_quiet_step (first | with_reducible exact r1 _ _))
            refine wpQuiet_nil ?_
            intro _ hw'
            obtain ⟨⟨dq, osq⟩, hw''⟩ := hw'
            have hb := below_regrown w1 dq osq
            subst hw''
            generalize grow (redrawn w1 dq) osq = w2 at hb ⊢
            replace a0 := a0.below hb
            replace a1 := a1.below hb
            replace hB := hB.trans (hb.mono hB.size)
            clear hb
            clear r1 lz ly
            clear hr0 hr
            go_wp2_with fail
            exact ⟨⟨j + 1, CB, by omega, by go_num, rfl, HS, a0, a1, hB⟩, by simp [intOf]; omega⟩
          | false =>
            have HS : Hid (allB (L.take (j + 1)) b = false) := HS0
            clear HS0 hr hr0 hbl
            have e0 := a0.drew
            have e1 := a1.drew
            have hE := hB.drew
            go_upto_region 10 with fail
            try simp only [Act.put, List.setIfInBounds_toArray, List.set_cons_zero, List.set_cons_succ]
            clear a0 a1 hB
            go_region
            go_wp2_with fail
            exact ⟨⟨j + 1, false, by omega, by go_num, rfl, HS, e0, e1, hE⟩, by simp [intOf]; omega⟩
        · obtain rfl : j = n := by omega
          have hAll : allB L b = A := by rw [← hA.out, List.take_of_length_le (by rw [HN.out.1]; omega)]
          rw [hAll] at pWU
          clear hA hAll
          have o1 := Ow.empty (f := row8) (k := 8) (blk_new wr #[] 25)
          have hb := below_box wr (.cells #[] 25)
          have b0 := a0.below hb
          have b1 := a1.below hb
          have hB1 := hB.trans (hb.mono hB.size)
          have mS1 := mS.below hB1
          have lS1 := lS.below hB1
          have hg := hB.size
          have hvs := a1.lt
          have s1 := mS1.src (P := Try.prog) row8_length row8_one Try.underlying22 mc
          have hMk : M.length = k := HN.out.2
          have hLn : L.length = j := HN.out.1
          rw [hMk] at s1
          clear hb a0 a1 hB
          go_upto_region 12 with (first | refine box_noct rfl rfl ?_ | (refine append_ow row8_length rfl _ _ rfl Try.underlying22 hI hz0 hsz hby hzs o1 rfl (M := M) (by rw [hMk]; exact s1) rfl (by simp [hMk]; omega) (by simp [hMk, maxLen]; omega) ?_; intro g1 cp1 w3 hg3 hk3 hw3; rw [List.nil_append] at hg3 ⊢; rw [hMk]; have c0 := b0.kp1 hk3 (by omega); have c1 := b1.kp1 hk3 (by omega); have hB3 : Below w.heap.size w w3 := hB1.trans (hk3.below1 (by omega) hB1.size); have hg1 : vs < g1 ∧ w.heap.size < g1 ∧ w.heap.size ≤ g1 := (by rcases hw3 with hw3 | hw3 <;> (try rw [alloc_size] at hw3) <;> omega); have s2 := (lS.below hB3).src (P := Try.prog) row8_length row8_one Try.underlying22 lc) | (refine append_ow row8_length rfl _ _ rfl Try.underlying22 hI hz0 hsz hby hzs hg3 (by rw [hMk]; rfl) (M := L) s2 (by rw [hLn]; rfl) (by simp [hMk, hLn]; omega) (by simp [hMk, hLn, maxLen]; omega) ?_; intro g2 cp2 w4 hg4 hk4 hw4; rw [List.length_append, hMk, hLn]; have d0 := c0.kp1 hk4 (by omega); have d1 := c1.kp1 hk4 (by omega); have hB4 : Below w.heap.size w w4 := hB3.trans (hk4.below1 (by omega) hB3.size)))
          try simp only [Act.put, List.setIfInBounds_toArray, List.set_cons_zero, List.set_cons_succ]
          clear o1 b0 b1 hB1 mS1 lS1 s1 c0 c1 hB3 s2 hI hk3 hk4 hw3 hw4 hg3 hg1
          have a0 := d0
          have a1 := d1
          have hC0 := hB4.drew
          have mS9 : Li row8 0 ma M w4.drew := mS.below hC0
          have bS9 : Li row8 0 (some ⟨g2, 0, none⟩) (M ++ L) w4.drew := (hg4.li (Nat.zero_le _)).below ((Below.refl _ _).drew)
          clear d0 d1 hg4 hB4 lS mS HI HN hMk hLn
          refine wp_region_held_drew (S := fun w' => Blk w.heap.size (mbc b) 25 w' ∧ Blk vs (mbc U) 25 w' ∧ Li row8 0 ma M w' ∧ Li row8 0 (some ⟨g2, 0, none⟩) (M ++ L) w') (by kernel_rfl) ⟨a0.drew, a1.drew, mS9, bS9⟩ (fun hHeld => ?_)
          refine' wpAnyH_take (i := 0) (v := _) rfl (by kernel_rfl) (by kernel_rfl) (by kernel_rfl) (fun _ _ _ h => h) (yieldsIf_load_mid (by rfl) _ _ rfl vs 0 rfl (row8 U) _ ?hS1 Try.underlying25 rfl sizeCt) hHeld ?rest1
          case hS1 => exact fun w h => h.2.1.whole
          try simp only [List.getElem_toArray]
          try simp only [List.getElem_cons_succ]
          try simp only [List.getElem_cons_zero]
          try simp only [Act.put]
          try simp only [List.setIfInBounds_toArray]
          try simp only [List.set_cons_succ]
          try simp only [List.set_cons_zero]
          refine' wpAnyH_take (i := 1) (v := _) rfl (by kernel_rfl) (by kernel_rfl) (by kernel_rfl) (fun _ _ _ h => h) (yieldsIf_load_mid (by rfl) _ _ rfl w.heap.size 0 rfl (row8 b) _ ?hS2 Try.underlying25 rfl sizeCt) hHeld ?rest2
          case hS2 => exact fun w h => h.1.whole
          try simp only [List.getElem_toArray]
          try simp only [List.getElem_cons_succ]
          try simp only [List.getElem_cons_zero]
          try simp only [Act.put]
          try simp only [List.setIfInBounds_toArray]
          try simp only [List.set_cons_succ]
          try simp only [List.set_cons_zero]
          refine wpAnyH_take (i := 3) (v := ?v3) rfl (by kernel_rfl) (by kernel_rfl) (by kernel_rfl) (fun _ _ _ h => h) (Or.inl ⟨by rfl, ?hy3⟩) hHeld ?rest3
          case hy3 => (intro w hSw; clear hSw; go_simp; try with_reducible rfl)
          try simp only [List.getElem_toArray]
          try simp only [List.getElem_cons_succ]
          try simp only [List.getElem_cons_zero]
          try simp only [Act.put]
          try simp only [List.setIfInBounds_toArray]
          try simp only [List.set_cons_succ]
          try simp only [List.set_cons_zero]
          refine wpAnyH_ready (rs := [2]) (by kernel_rfl) (by simp) ?_
          refine AllReadyH.cons rfl (fun K hK => ?_) (AllReadyH.nil)
          go_simp
          go_wp2_with (refine (pWU _).mono ?_; rintro r u1 ⟨rfl, hb⟩)
          have hC1 := hC0.trans (hb.mono hC0.size)
          refine hK.out _ _ ⟨hHeld.1.below hb, hHeld.2.1.below hb, hHeld.2.2.1.below hb, hHeld.2.2.2.below hb⟩ (fun hHeld => ?_)
          clear hK K hb hC0
          refine wpAnyH_take (i := 4) (v := ?v4) rfl (by kernel_rfl) (by kernel_rfl) (by kernel_rfl) (fun _ _ _ h => h) (Or.inl ⟨by rfl, ?hy4⟩) hHeld ?rest4
          case hy4 => (intro w hSw; clear hSw; go_simp; try with_reducible rfl)
          try simp only [List.getElem_toArray]
          try simp only [List.getElem_cons_succ]
          try simp only [List.getElem_cons_zero]
          try simp only [Act.put]
          try simp only [List.setIfInBounds_toArray]
          try simp only [List.set_cons_succ]
          try simp only [List.set_cons_zero]
          refine wpAnyH_take (i := 5) (v := ?v5) rfl (by kernel_rfl) (by kernel_rfl) (by kernel_rfl) (fun _ _ _ h => h) (Or.inl ⟨by rfl, ?hy5⟩) hHeld ?rest5
          case hy5 => (intro w hSw; clear hSw; go_simp; try with_reducible rfl)
          try simp only [List.getElem_toArray]
          try simp only [List.getElem_cons_succ]
          try simp only [List.getElem_cons_zero]
          try simp only [Act.put]
          try simp only [List.setIfInBounds_toArray]
          try simp only [List.set_cons_succ]
          try simp only [List.set_cons_zero]
          refine' wpAnyH_take (i := 6) (v := _) rfl (by kernel_rfl) (by kernel_rfl) (by kernel_rfl) (fun _ _ _ h => h) (yieldsIf_load_mid (by rfl) _ _ rfl vs 0 rfl (row8 U) _ ?hS6 Try.underlying25 rfl sizeCt) hHeld ?rest6
          case hS6 => exact fun w h => h.2.1.whole
          try simp only [List.getElem_toArray]
          try simp only [List.getElem_cons_succ]
          try simp only [List.getElem_cons_zero]
          try simp only [Act.put]
          try simp only [List.setIfInBounds_toArray]
          try simp only [List.set_cons_succ]
          try simp only [List.set_cons_zero]
          refine wpAnyH_take (i := 7) (v := ?v7) rfl (by kernel_rfl) (by kernel_rfl) (by kernel_rfl) (fun _ _ _ h => h) (Or.inl ⟨by rfl, ?hy7⟩) hHeld ?rest7
          case hy7 => (intro w hSw; clear hSw; go_simp; try with_reducible rfl)
          try simp only [List.getElem_toArray]
          try simp only [List.getElem_cons_succ]
          try simp only [List.getElem_cons_zero]
          try simp only [Act.put]
          try simp only [List.setIfInBounds_toArray]
          try simp only [List.set_cons_succ]
          try simp only [List.set_cons_zero]
          refine wpAnyH_take (i := 11) (v := ?v8) rfl (by kernel_rfl) (by kernel_rfl) (by kernel_rfl) (fun _ _ _ h => h) (Or.inl ⟨by rfl, ?hy8⟩) hHeld ?rest8
          case hy8 => (intro w hSw; clear hSw; go_simp; try with_reducible rfl)
          try simp only [List.getElem_toArray]
          try simp only [List.getElem_cons_succ]
          try simp only [List.getElem_cons_zero]
          try simp only [Act.put]
          try simp only [List.setIfInBounds_toArray]
          try simp only [List.set_cons_succ]
          try simp only [List.set_cons_zero]
          refine wpAnyH_ready (rs := [8]) (by kernel_rfl) (by simp) ?_
          refine AllReadyH.cons rfl (fun K hK => ?_) (AllReadyH.nil)
          go_simp
          go_wp2_with (refine (pM _ hHeld.2.2.1).mono ?_; rintro r u2 ⟨rfl, hb⟩)
          have hC2 := hC1.trans (hb.mono hC1.size)
          refine hK.out _ _ ⟨hHeld.1.below hb, hHeld.2.1.below hb, hHeld.2.2.1.below hb, hHeld.2.2.2.below hb⟩ (fun hHeld => ?_)
          clear hK K hb hC1
          refine wpAnyH_ready (rs := [9]) (by kernel_rfl) (by simp) ?_
          refine AllReadyH.cons rfl (fun K hK => ?_) (AllReadyH.nil)
          rw [if_pos (by rfl)]
          refine wp_ct2 _ _ rfl U V rfl rfl ?_
          intro xp u3 x3 hb xl
          have xg := Nat.le_trans hC2.size xl
          have hC3 := hC2.trans (hb.mono hC2.size)
          refine hK.out _ _ ⟨hHeld.1.below hb, hHeld.2.1.below hb, hHeld.2.2.1.below hb, hHeld.2.2.2.below hb⟩ (fun hHeld => ?_)
          clear hK K hb hC2
          try simp only [List.getElem_toArray]
          try simp only [List.getElem_cons_succ]
          try simp only [List.getElem_cons_zero]
          try simp only [Act.put]
          try simp only [List.setIfInBounds_toArray]
          try simp only [List.set_cons_succ]
          try simp only [List.set_cons_zero]
          refine wpAnyH_ready (rs := [10]) (by kernel_rfl) (by simp) ?_
          refine AllReadyH.cons rfl (fun K hK => ?_) (AllReadyH.nil)
          go_simp
          go_wp2_with (refine (p2 _ _ (li_whole x3 (Nat.zero_le _))).mono ?_; rintro r u4 ⟨rfl, hb⟩)
          have hC4 := hC3.trans (hb.mono hC3.size)
          have x4 := x3.below hb
          refine hK.out _ _ ⟨hHeld.1.below hb, hHeld.2.1.below hb, hHeld.2.2.1.below hb, hHeld.2.2.2.below hb⟩ (fun hHeld => ?_)
          clear hK K hb hC3 x3
          refine wpAnyH_ready (rs := [12]) (by kernel_rfl) (by simp) ?_
          refine AllReadyH.cons rfl (fun K hK => ?_) (AllReadyH.nil)
          go_simp
          go_wp2_with (refine (pB _ _ _ hHeld.2.2.2).mono ?_; rintro r u5 ⟨rfl, hb⟩)
          have hC5 := hC4.trans (hb.mono hC4.size)
          have x5 := x4.below hb
          refine hK.out _ _ ⟨hHeld.1.below hb, hHeld.2.1.below hb, hHeld.2.2.1.below hb, hHeld.2.2.2.below hb⟩ (fun hHeld => ?_)
          clear hK K hb hC4 x4
          refine wpAnyH_take (i := 13) (v := ?v9) rfl (by kernel_rfl) (by kernel_rfl) (by kernel_rfl) (fun _ _ _ h => h) (Or.inl ⟨by rfl, ?hy9⟩) hHeld ?rest9
          case hy9 => (intro w hSw; clear hSw; go_simp; try with_reducible rfl)
          try simp only [List.getElem_toArray]
          try simp only [List.getElem_cons_succ]
          try simp only [List.getElem_cons_zero]
          try simp only [Act.put]
          try simp only [List.setIfInBounds_toArray]
          try simp only [List.set_cons_succ]
          try simp only [List.set_cons_zero]
          refine wpAnyH_take (i := 14) (v := ?v10) rfl (by kernel_rfl) (by kernel_rfl) (by kernel_rfl) (fun _ _ _ h => h) (Or.inl ⟨by rfl, ?hy10⟩) hHeld ?rest10
          case hy10 => (intro w hSw; clear hSw; go_simp; try with_reducible rfl)
          try simp only [List.getElem_toArray]
          try simp only [List.getElem_cons_succ]
          try simp only [List.getElem_cons_zero]
          try simp only [Act.put]
          try simp only [List.setIfInBounds_toArray]
          try simp only [List.set_cons_succ]
          try simp only [List.set_cons_zero]
          refine wpAnyH_take (i := 15) (v := ?v11) rfl (by kernel_rfl) (by kernel_rfl) (by kernel_rfl) (fun _ _ _ h => h) (Or.inl ⟨by rfl, ?hy11⟩) hHeld ?rest11
          case hy11 => (intro w hSw; clear hSw; go_simp; try with_reducible rfl)
          try simp only [List.getElem_toArray]
          try simp only [List.getElem_cons_succ]
          try simp only [List.getElem_cons_zero]
          try simp only [Act.put]
          try simp only [List.setIfInBounds_toArray]
          try simp only [List.set_cons_succ]
          try simp only [List.set_cons_zero]
          refine' wpAnyH_take (i := 16) (v := _) rfl (by kernel_rfl) (by kernel_rfl) (by kernel_rfl) (fun _ _ _ h => h) (yieldsIf_load_mid (by rfl) _ _ rfl vs 0 rfl (row8 U) _ ?hS12 Try.underlying25 rfl sizeCt) hHeld ?rest12
          case hS12 => exact fun w h => h.2.1.whole
          try simp only [List.getElem_toArray]
          try simp only [List.getElem_cons_succ]
          try simp only [List.getElem_cons_zero]
          try simp only [Act.put]
          try simp only [List.setIfInBounds_toArray]
          try simp only [List.set_cons_succ]
          try simp only [List.set_cons_zero]
          refine' wpAnyH_take (i := 17) (v := _) rfl (by kernel_rfl) (by kernel_rfl) (by kernel_rfl) (fun _ _ _ h => h) (yieldsIf_load_mid (by rfl) _ _ rfl vs 0 rfl (row8 U) _ ?hS13 Try.underlying25 rfl sizeCt) hHeld ?rest13
          case hS13 => exact fun w h => h.2.1.whole
          try simp only [List.getElem_toArray]
          try simp only [List.getElem_cons_succ]
          try simp only [List.getElem_cons_zero]
          try simp only [Act.put]
          try simp only [List.setIfInBounds_toArray]
          try simp only [List.set_cons_succ]
          try simp only [List.set_cons_zero]
          refine' wpAnyH_take (i := 20) (v := _) rfl (by kernel_rfl) (by kernel_rfl) (by kernel_rfl) (fun _ _ _ h => h) (yieldsIf_load_mid (by rfl) _ _ rfl vs 0 rfl (row8 U) _ ?hS14 Try.underlying25 rfl sizeCt) hHeld ?rest14
          case hS14 => exact fun w h => h.2.1.whole
          try simp only [List.getElem_toArray]
          try simp only [List.getElem_cons_succ]
          try simp only [List.getElem_cons_zero]
          try simp only [Act.put]
          try simp only [List.setIfInBounds_toArray]
          try simp only [List.set_cons_succ]
          try simp only [List.set_cons_zero]
          refine wpAnyH_ready (rs := [18]) (by kernel_rfl) (by simp) ?_
          refine AllReadyH.cons rfl (fun K hK => ?_) (AllReadyH.nil)
          rw [if_pos (by rfl)]
          refine wp_ct2 _ _ rfl U U rfl rfl ?_
          intro yp u6 y6 hb yl
          have xyn : xp < yp := Nat.lt_of_lt_of_le x5.lt yl
          have yg := Nat.le_trans hC5.size yl
          have hC6 := hC5.trans (hb.mono hC5.size)
          have x6 := x5.below hb
          refine hK.out _ _ ⟨hHeld.1.below hb, hHeld.2.1.below hb, hHeld.2.2.1.below hb, hHeld.2.2.2.below hb⟩ (fun hHeld => ?_)
          clear hK K hb hC5 x5
          try simp only [List.getElem_toArray]
          try simp only [List.getElem_cons_succ]
          try simp only [List.getElem_cons_zero]
          try simp only [Act.put]
          try simp only [List.setIfInBounds_toArray]
          try simp only [List.set_cons_succ]
          try simp only [List.set_cons_zero]
          refine wpAnyH_ready (rs := [19]) (by kernel_rfl) (by simp) ?_
          refine AllReadyH.cons rfl (fun K hK => ?_) (AllReadyH.nil)
          go_simp
          go_wp2_with (refine (p3 _ _ (li_whole y6 (Nat.zero_le _))).mono ?_; rintro r u7 ⟨rfl, hb⟩)
          have hC7 := hC6.trans (hb.mono hC6.size)
          have x7 := x6.below hb
          have y7 := y6.below hb
          refine hK.out _ _ ⟨hHeld.1.below hb, hHeld.2.1.below hb, hHeld.2.2.1.below hb, hHeld.2.2.2.below hb⟩ (fun hHeld => ?_)
          clear hK K hb hC6 x6 y6
          refine wpAnyH_take (i := 21) (v := ?v15) rfl (by kernel_rfl) (by kernel_rfl) (by kernel_rfl) (fun _ _ _ h => h) (Or.inl ⟨by rfl, ?hy15⟩) hHeld ?rest15
          case hy15 => (intro w hSw; clear hSw; go_simp; try with_reducible rfl)
          try simp only [List.getElem_toArray]
          try simp only [List.getElem_cons_succ]
          try simp only [List.getElem_cons_zero]
          try simp only [Act.put]
          try simp only [List.setIfInBounds_toArray]
          try simp only [List.set_cons_succ]
          try simp only [List.set_cons_zero]
          refine wpAnyH_take (i := 22) (v := ?v16) rfl (by kernel_rfl) (by kernel_rfl) (by kernel_rfl) (fun _ _ _ h => h) (Or.inl ⟨by rfl, ?hy16⟩) hHeld ?rest16
          case hy16 => (intro w hSw; clear hSw; go_simp; try with_reducible rfl)
          try simp only [List.getElem_toArray]
          try simp only [List.getElem_cons_succ]
          try simp only [List.getElem_cons_zero]
          try simp only [Act.put]
          try simp only [List.setIfInBounds_toArray]
          try simp only [List.set_cons_succ]
          try simp only [List.set_cons_zero]
          refine wpAnyH_take (i := 23) (v := ?v17) rfl (by kernel_rfl) (by kernel_rfl) (by kernel_rfl) (fun _ _ _ h => h) (Or.inl ⟨by rfl, ?hy17⟩) hHeld ?rest17
          case hy17 => (intro w hSw; clear hSw; go_simp; try with_reducible rfl)
          try simp only [List.getElem_toArray]
          try simp only [List.getElem_cons_succ]
          try simp only [List.getElem_cons_zero]
          try simp only [Act.put]
          try simp only [List.setIfInBounds_toArray]
          try simp only [List.set_cons_succ]
          try simp only [List.set_cons_zero]
          refine wpAnyH_done (by kernel_rfl) ?_ _
          go_wp2_with fail
          go_ret
          exact ⟨rfl, hC7⟩
    · have hk1 : (50 : Int) < (k : Int) := by omega
      clear hk pB hL50 pL pM p2 p3 pWU
      go_wp2_with fail
      refine (fixed_ok _).mono ?_
      rintro r w1 ⟨rfl, hb⟩
      replace hB := hB.trans (hb.mono hB.size)
      clear hb
      go_wp2_with fail
      go_ret
      exact ⟨rfl, hB⟩
  · have hn1 : (50 : Int) < (n : Int) := by omega
    clear hn pB hL50 pL pM p2 p3 pWU
    go_wp2_with fail
    refine (fixed_ok _).mono ?_
    rintro r w1 ⟨rfl, hb⟩
    replace hB := hB.trans (hb.mono hB.size)
    clear hb
    go_wp2_with fail
    go_ret
    exact ⟨rfl, hB⟩

set_option maxRecDepth 100000 in
theorem lifted (os : Go.Os) (started : os.Started) (H : Type) (enc : TypeId × Value → H) :
    ReturnsInHanded {} Try.checked os 4 .any (Rows.cutUnionSpec.pre6 enc Try.prog Try.f4 Rows.cutUnionRow.domain false) (Rows.cutUnionSpec.post enc Try.prog Try.f4 false true false false) := by
  refine returnsInHanded_of_change_sized (C := Try.checked) own started (by kernel_rfl) Try.func4
    (ChangeSpec.witness6 (enc := enc) (C := Try.checked) false ⟨#[], #[.slice none 0 0, .slice none 0 0, .agg (mbc noMb)], []⟩ 8 (by kernel_rfl) (by kernel_rfl) (by kernel_rfl) (by kernel_rfl)) ?_
  intro W base args ds gs before hval0 hW hcnd hsz0 _
  have hval : ∀ (j : Nat) t v, Try.f4.params[j]? = some t → args[j]? = some v → Value.okWide Try.prog W .any base t v := hval0
  have hsz : (DataW.weightsEach Try.prog (Try.f4.params.toList ++ Rows.cutUnionSpec.plain.varTypes Try.prog) (ds ++ gs)).all (· ≤ reachBytes) = true := hsz0
  have hW' := hW
  obtain ⟨p, q, hA0, hV, rfl, hfz, hnd⟩ := hW
  have hA : DataW.TrodAll enc Try.prog W 0 (fun _ => true) true Try.f4.params.toList args.toList ds p := hA0
  rw [Try.params4] at hA hval hsz

  obtain ⟨v0, vs0, d0, ds0, p0, q0, hargs, rfl, rfl, h0, r0⟩ := trodAll_cons hA
  obtain ⟨v1, vs1, d1, ds1, p1, q1, rfl, rfl, rfl, h1, r1⟩ := trodAll_cons r0
  obtain ⟨v2, vs2, d2, ds2, p2, q2, rfl, rfl, rfl, h2, r2⟩ := trodAll_cons r1
  obtain ⟨rfl, rfl, rfl⟩ := trodAll_nil r2
  obtain rfl : args = #[v0, v1, v2] := by cases args; simp_all
  obtain ⟨rfl, rfl⟩ := trodVars_none hV
  obtain ⟨la0, L0, lc0, rfl, lm0, hS0⟩ := open_cts (okWide_slice Try.underlying22 (hval 0 22 v0 rfl rfl)) h0
  obtain ⟨la1, L1, lc1, rfl, lm1, hS1⟩ := open_cts (okWide_slice Try.underlying22 (hval 1 22 v1 rfl rfl)) h1
  obtain ⟨c2, rfl, kc2⟩ := open_ct (by obtain ⟨cs, h1, _⟩ := (by simpa only [Value.okWide, Try.underlying25] using hval 2 25 v2 rfl rfl : ∃ cs, v2 = .agg cs ∧ _); exact ⟨cs, h1⟩) h2
  have hA2 := hA0
  clear hA0 hval0 hsz0
  simp only [List.append_nil] at hW'
  refine (walk la0 L0 lc0 lm0 la1 L1 lc1 lm1 c2 kc2 W hS0 hS1).mono fun e W' ⟨he, bel⟩ => ?_
  subst he
  exact ⟨_, rfl, _, _, _, [], _, [], hW', trodAll_mk1 (shut_bool Try.underlying4 _), (stays_all laidOut bel (by kernel_rfl) hA2), rfl, bel.frame _, fun h => by cases h⟩

theorem over : Rows.cutUnionRow.holds Try.pinned (OpenSpec.ofChange Rows.cutUnionSpec) :=
  OpenClaim.holds_of_wide 4 Try.f4 rfl rfl rfl rfl rfl rfl rfl ⟨rfl, rfl, rfl, rfl, rfl⟩ rfl rfl rfl rfl rfl (by kernel_rfl) Try.func4 (by kernel_rfl)
    (of_decide_eq_true (by kernel_rfl)) (by unfold Func.isWrapper; first | (rw [if_pos (by decide +kernel)]; kernel_rfl) | (rw [if_neg (by decide +kernel)]; exact ⟨rfl, rfl⟩))
    (fun os started H enc _ => lifted os started H enc)

end Go.Proofs.Ytodemfkjieonoaa.cutUnion
namespace Go.Proofs.Ytodemfkjieonoaa

theorem cutUnion_holds : Rows.CutUnionSaid := cutUnion.over
#print axioms cutUnion_holds

end Go.Proofs.Ytodemfkjieonoaa
