/-
  What the others have received together, as the document says: what the call answers.
  No condition.
-/
import Derived.Test.YthgmecgknhphmaaGaG
import Derived.Test.YthgmecgknhphmaaGaA
import Derived.Test.YthgmecgknhphmaaCtV
namespace Go.Proofs.Ythgmecgknhphmaa
set_option maxRecDepth 10000
set_option linter.unusedSimpArgs false
open Go.RowKit Go.Sort
set_option linter.unusedVariables false

theorem infoCt : ∃ i z, Try.prog.info? 29 = some i ∧ i.zero = some z ∧ i.size = 8 ∧ i.bytes = 32 ∧ z.cells.size = 8 := by
  have h : (Try.prog.info? 29).map (fun i => (i.zero, i.size, i.bytes)) = some (some (.agg (mbc noMb)), 8, 32) := by kernel_rfl
  obtain ⟨i, hi, h0, h1, h2⟩ := info_parts h
  exact ⟨i, _, hi, h0, h1, h2, rfl⟩
theorem bsCt1 (a : Nat → Nat) (w : World) : (Instr.buildSlice 130 1 #[(0, .agg (mbc a))]).run Try.prog w = .ok (.slice (some ⟨w.heap.size, 0, none⟩) 1 1) (w.alloc (.cells (row8 a).toArray 29)) := by kernel_rfl
theorem box_c1 {ops : Array Oper} {rest : List Oper} {op : Oper} {a : Act} {w : World} {Q : Exit → Act → World → Prop} (hgd : op.guard = none) (y : Operand) (ho : op.op = .buildSlice 130 1 #[(0, y)]) (c : Nat → Nat) (hx : a.eval y = .agg (mbc c))
    (h : wpList Try.prog ops Q rest (a.put op.dst (.slice (some ⟨w.heap.size, 0, none⟩) 1 1)) (w.alloc (.cells (row8 c).toArray 29))) : wpList Try.prog ops Q (op :: rest) a w :=
  wpList_plain hgd fun _ hK => by
    have hk := hK _ _ h
    unfold Oper.wp execOp
    simp only [ho, List.map_toArray, List.map_cons, List.map_nil, hx, Sem.run_bind, Sem.run_pure, bsCt1, Result.andThen_ok]
    exact hk

def cutsL (c : Co) (L : List Nat) : List (Nat → Nat) := c.cut :: (L.filter (goesB c)).map fun d => (c.peers d).cut
theorem fold_targ (c : Co) (L : List Nat) : ∀ u : Nat → Nat, ((L.filter (goesB c)).map fun d => (c.peers d).cut).foldl maxC u = L.foldl (targS c) u := by
  induction L with
  | nil => intro u; rfl
  | cons d L ih =>
    intro u
    cases h : goesB c d with
    | true => rw [List.filter_cons_of_pos h, List.map_cons, List.foldl_cons, List.foldl_cons, ih]; simp [targS, h]
    | false => rw [List.filter_cons_of_neg (by simp [h]), List.foldl_cons, ih]; simp [targS, h]
theorem union_cuts (c : Co) (L : List Nat) : unionL (cutsL c L) = targL c L := by
  have e : maxC noMb c.cut = c.cut := by funext i; simp [maxC, noMb]
  rw [unionL, cutsL, List.foldl_cons, e, fold_targ]
  rfl
theorem cuts_yes (c : Co) (L : List Nat) (j d : Nat) (h : L[j]? = some d) (g : goesB c d = true) : cutsL c (L.take (j + 1)) = cutsL c (L.take j) ++ [(c.peers d).cut] := by
  rw [List.take_add_one, h]
  simp [cutsL, List.filter_append, g]
theorem cuts_no (c : Co) (L : List Nat) (j d : Nat) (h : L[j]? = some d) (g : goesB c d = false) : cutsL c (L.take (j + 1)) = cutsL c (L.take j) := by
  rw [List.take_add_one, h]
  simp [cutsL, List.filter_append, g]
theorem ow_one (c : Nat → Nat) {g : Nat} {w : World} (h : Blk g (row8 c).toArray 29 w) : Ow row8 8 29 g 1 [c] w := ⟨_, h, Nat.le_refl _, by decide, rfl, by simp [flat, row8]⟩

set_option maxHeartbeats 4000000 in
theorem rtarget_ok (c : Co) (w : World) : Calls Try.prog 57 #[.agg (coc c)] w fun e w' => e = .returned (.agg (mbc (targC c))) ∧ Below w.heap.size w w' := by
  obtain ⟨a0, a1, hB⟩ := two_blk (T0 := 35) (T1 := 29) (C0 := coc c) (C1 := mbc noMb) (w := w) rfl
  obtain ⟨iI, zI, hI, hz0, hsz, hby, hzs⟩ := infoCt
  obtain ⟨R, HR⟩ : ∃ R, Hid (targC c = R) := ⟨_, rfl⟩
  rw [HR.out]
  go_enter Try.func57, Try.ntmps57
  go_upto_region 1 with (refine alloc_zero zeroCt rfl rfl ?_)
  try simp only [Act.put, List.setIfInBounds_toArray, List.set_cons_zero, List.set_cons_succ]
  try simp only [alloc_size]
  generalize (w.alloc (Obj.cells (coc c) 35)).alloc (Obj.cells (mbc noMb) 29) = W at a0 a1 hB ⊢
  go_wp2_with (refine load_blk rfl 35 _ rfl a0 rfl Try.underlying35 rfl sizeCo ?_)
  refine (rothers_ok c _).mono ?_
  rintro r w1 ⟨⟨la, lc, rfl, hL⟩, hb⟩
  replace a0 := a0.below hb
  replace a1 := a1.below hb
  replace hB := hB.trans (hb.mono hB.size)
  clear hb 
  replace hL := hL.mono (Nat.zero_le _)
  have hn8 := oth_len c.want c.self
  obtain ⟨L, HL⟩ : ∃ L, Hid (oth c.want c.self = L) := ⟨_, rfl⟩
  have HM : Hid (∀ d ∈ L, d < 8) := fun d hd => by rw [← HL.out] at hd; exact ((mem_oth _ _ _).1 hd).1
  rw [HL.out] at hL hn8 ⊢
  obtain ⟨n, hn⟩ : ∃ n, L.length = n := ⟨_, rfl⟩
  rw [hn] at hn8 ⊢
  have HN : Hid (L.length = n) := hn
  clear hn
  have o1 := Lg.of (ow_one c.cut (blk_new w1 (row8 c.cut).toArray 29)) (Nat.le_refl w1.heap.size)
  have hb1 : Below w1.heap.size w1 (w1.alloc (.cells (row8 c.cut).toArray 29)) := below_box w1 _
  go_wp2_with (first | refine load_part rfl 29 _ rfl (o := 51) a0 rfl (row8 c.cut) c.p_cut Try.underlying29 rfl sizeCt ?_ | refine box_c1 rfl _ rfl c.cut rfl ?_)
  go_loopw [4, 5] (fun lv iv wr => ∃ (j k cap : Nat) (ad : Option Addr), j ≤ n ∧ k ≤ j + 1 ∧ iv = .int .i64 j ∧ lv = .slice ad k cap ∧ Hid ((cutsL c (L.take j)).length = k) ∧ Lg row8 8 29 w1.heap.size ad cap (cutsL c (L.take j)) wr ∧ Below w1.heap.size w1 wr) (fun _ iv _ => n - (intOf iv).toNat)
  case atStart => exact ⟨0, 1, 1, _, by omega, by omega, rfl, rfl, rfl, o1, hb1⟩
  case round =>
    clear o1 hb1
    obtain ⟨j, k, cap, ad, hj, hkj, rfl, rfl, h0, hg, hb⟩ := hrel
    by_cases hjn : j < n
    · have j0 : (j : Int) < (n : Int) := by omega
      have j1 : (0 : Int) ≤ (j : Int) := by omega
      obtain ⟨d, hk⟩ : ∃ k, L[j]? = some k := ⟨_, List.getElem?_eq_getElem (by rw [HN.out]; exact hjn)⟩
      have hdL : d ∈ L := List.mem_of_getElem? hk
      have hd := HM.out d hdL
      obtain ⟨b, o, rfl, _, hbl, hr⟩ := hL.at nv_length j d hk
      have a := a0.below hb
      have l := hL.below hb
      have c0 := l.nat j d hk
      have d1 : (0 : Int) ≤ (d : Int) := by omega
      have d2 : (d : Int) < 8 := by omega
      have hp := c.p_peer d hd
      obtain ⟨t1, ht1⟩ : ∃ t, matB c d = t := ⟨_, rfl⟩
      have k1 : (((c.peers d).inc : Int) == (c.want d : Int)) = t1 := by rw [← ht1, matB, Bool.eq_iff_iff, beq_iff_eq, decide_eq_true_iff]; omega
      obtain ⟨t2, ht2⟩ : ∃ t, Idn.same (c.peers d).conf c.conf = t := ⟨_, rfl⟩
      obtain ⟨t3, ht3⟩ : ∃ t, Idn.same (c.peers d).pr c.pr = t := ⟨_, rfl⟩
      have hg3 : goesB c d = ((t1 && t2) && t3) := by rw [goesB, ht1, ht2, ht3]
      have hb3 := below_box wr (.cells (c.peers d).arr 32)
      have a3 := blk_new wr (c.peers d).arr 32
      go_upto_region 7 with (first | refine load_part rfl 32 _ rfl (o := 60 + d * 16) a rfl (c.peers d).vals hp Try.underlying32 rfl sizePe ?_ | refine alloc_zero zeroPe rfl rfl ?_ | refine store_new rfl 32 _ _ rfl (cells := (c.peers d).arr) rfl rfl sizePe rfl (Pe.arr_one _) ?_)
      try simp only [Act.put, List.setIfInBounds_toArray, List.set_cons_zero, List.set_cons_succ]
      generalize wr.alloc (Obj.cells (c.peers d).arr 32) = W3 at a3 hb3 ⊢
      replace hb := hb.trans (hb3.mono hb.size)
      replace a := a.below hb3
      replace l := l.below hb3
      replace hg := hg.below hb3
      clear hb3 hr hp c0
      generalize wr.heap.size = p at *
      have hC0 := hb.drew
      have g0 := hg.below ((Below.refl _ _).drew)
      clear hg
      cases t1 with
      | false =>
        have hgo : goesB c d = false := by rw [hg3]; rfl
        have e := cuts_no c L j d hk hgo
        have HS : Hid ((cutsL c (L.take (j + 1))).length = k) := by rw [e]; exact h0
        rw [← e] at g0
        clear h0 ht1 ht2 ht3 hg3 hgo e hdL
        refine wp_region_held_drew (S := fun w' => Blk p (c.peers d).arr 32 w' ∧ Blk w.heap.size (coc c) 35 w' ∧ Li nv 0 (some ⟨b, o, none⟩) L w') (by kernel_rfl) ⟨a3.drew, a.drew, l.below ((Below.refl _ _).drew)⟩ (fun hHeld => ?_)
        refine tkH 0 (v := ?v159) rfl (by kernel_rfl) (fun _ _ _ h => h) (Or.inl ⟨by rfl, ?hy159⟩) hHeld ?rest159
        case hy159 => (intro w hSw; clear hSw; go_simp; try with_reducible rfl)
        try simp only [List.getElem_toArray, List.getElem_cons_succ, List.getElem_cons_zero, Act.put, List.setIfInBounds_toArray, List.set_cons_succ, List.set_cons_zero]
        refine tkH 1 (v := ?v160) rfl (by kernel_rfl) (fun _ _ _ h => h) (Or.inl ⟨by rfl, ?hy160⟩) hHeld ?rest160
        case hy160 => (intro w hSw; have hc := hSw.1.cell 0 (.int .u32 ((c.peers d).inc : Int)) rfl; clear hSw; go_simp; try with_reducible rfl)
        try simp only [List.getElem_toArray, List.getElem_cons_succ, List.getElem_cons_zero, Act.put, List.setIfInBounds_toArray, List.set_cons_succ, List.set_cons_zero]
        refine tkH 2 (v := ?v161) rfl (by kernel_rfl) (fun _ _ _ h => h) (Or.inl ⟨by rfl, ?hy161⟩) hHeld ?rest161
        case hy161 => (intro w hSw; clear hSw; go_simp; try with_reducible rfl)
        try simp only [List.getElem_toArray, List.getElem_cons_succ, List.getElem_cons_zero, Act.put, List.setIfInBounds_toArray, List.set_cons_succ, List.set_cons_zero]
        refine tkH 3 (v := ?v162) rfl (by kernel_rfl) (fun _ _ _ h => h) (Or.inl ⟨by rfl, ?hy162⟩) hHeld ?rest162
        case hy162 => (intro w hSw; clear hSw; go_simp; try with_reducible rfl)
        try simp only [List.getElem_toArray, List.getElem_cons_succ, List.getElem_cons_zero, Act.put, List.setIfInBounds_toArray, List.set_cons_succ, List.set_cons_zero]
        refine tkH 4 (v := ?v163) rfl (by kernel_rfl) (fun _ _ _ h => h) (Or.inl ⟨by rfl, ?hy163⟩) hHeld ?rest163
        case hy163 => (intro w hSw; clear hSw; go_simp; try with_reducible rfl)
        try simp only [List.getElem_toArray, List.getElem_cons_succ, List.getElem_cons_zero, Act.put, List.setIfInBounds_toArray, List.set_cons_succ, List.set_cons_zero]
        refine tkH 5 (v := ?v164) rfl (by kernel_rfl) (fun _ _ _ h => h) (Or.inl ⟨by rfl, ?hy164⟩) hHeld ?rest164
        case hy164 => (intro w hSw; have hc := hSw.2.2.nat j d hk; clear hSw; go_simp; try with_reducible rfl)
        try simp only [List.getElem_toArray, List.getElem_cons_succ, List.getElem_cons_zero, Act.put, List.setIfInBounds_toArray, List.set_cons_succ, List.set_cons_zero]
        refine tkH 6 (v := ?v165) rfl (by kernel_rfl) (fun _ _ _ h => h) (Or.inl ⟨by rfl, ?hy165⟩) hHeld ?rest165
        case hy165 => (intro w hSw; clear hSw; go_simp; try with_reducible rfl)
        try simp only [List.getElem_toArray, List.getElem_cons_succ, List.getElem_cons_zero, Act.put, List.setIfInBounds_toArray, List.set_cons_succ, List.set_cons_zero]
        refine tkH 7 (v := ?v166) rfl (by kernel_rfl) (fun _ _ _ h => h) (Or.inl ⟨by rfl, ?hy166⟩) hHeld ?rest166
        case hy166 => (intro w hSw; clear hSw; go_simp; try with_reducible rfl)
        try simp only [List.getElem_toArray, List.getElem_cons_succ, List.getElem_cons_zero, Act.put, List.setIfInBounds_toArray, List.set_cons_succ, List.set_cons_zero]
        refine tkH 8 (v := ?v167) rfl (by kernel_rfl) (fun _ _ _ h => h) (Or.inl ⟨by rfl, ?hy167⟩) hHeld ?rest167
        case hy167 => (intro w hSw; have hc := hSw.2.1.cell (43 + d) _ (c.get_want d hd); clear hSw; go_simp; try with_reducible rfl)
        try simp only [List.getElem_toArray, List.getElem_cons_succ, List.getElem_cons_zero, Act.put, List.setIfInBounds_toArray, List.set_cons_succ, List.set_cons_zero]
        refine tkH 9 (v := ?v168) rfl (by kernel_rfl) (fun _ _ _ h => h) (Or.inl ⟨by rfl, ?hy168⟩) hHeld ?rest168
        case hy168 => (intro w hSw; clear hSw; go_simp; try with_reducible rfl)
        try simp only [List.getElem_toArray, List.getElem_cons_succ, List.getElem_cons_zero, Act.put, List.setIfInBounds_toArray, List.set_cons_succ, List.set_cons_zero]
        refine tkH 10 (v := ?v169) rfl (by kernel_rfl) (fun _ _ _ h => h) (Or.inl ⟨by rfl, ?hy169⟩) hHeld ?rest169
        case hy169 => (intro w hSw; clear hSw; go_simp; try with_reducible rfl)
        try simp only [List.getElem_toArray, List.getElem_cons_succ, List.getElem_cons_zero, Act.put, List.setIfInBounds_toArray, List.set_cons_succ, List.set_cons_zero]
        refine tkH 11 (v := undef) rfl (by kernel_rfl) (fun _ _ _ h => h) (Or.inr ⟨by rfl, rfl⟩) hHeld ?rest170
        try simp only [List.getElem_toArray, List.getElem_cons_succ, List.getElem_cons_zero, Act.put, List.setIfInBounds_toArray, List.set_cons_succ, List.set_cons_zero]
        refine tkH 12 (v := undef) rfl (by kernel_rfl) (fun _ _ _ h => h) (Or.inr ⟨by rfl, rfl⟩) hHeld ?rest171
        try simp only [List.getElem_toArray, List.getElem_cons_succ, List.getElem_cons_zero, Act.put, List.setIfInBounds_toArray, List.set_cons_succ, List.set_cons_zero]
        refine tkH 13 (v := undef) rfl (by kernel_rfl) (fun _ _ _ h => h) (Or.inr ⟨by rfl, rfl⟩) hHeld ?rest172
        try simp only [List.getElem_toArray, List.getElem_cons_succ, List.getElem_cons_zero, Act.put, List.setIfInBounds_toArray, List.set_cons_succ, List.set_cons_zero]
        refine tkH 14 (v := undef) rfl (by kernel_rfl) (fun _ _ _ h => h) (Or.inr ⟨by rfl, rfl⟩) hHeld ?rest173
        try simp only [List.getElem_toArray, List.getElem_cons_succ, List.getElem_cons_zero, Act.put, List.setIfInBounds_toArray, List.set_cons_succ, List.set_cons_zero]
        refine tkH 15 (v := undef) rfl (by kernel_rfl) (fun _ _ _ h => h) (Or.inr ⟨by rfl, rfl⟩) hHeld ?rest174
        try simp only [List.getElem_toArray, List.getElem_cons_succ, List.getElem_cons_zero, Act.put, List.setIfInBounds_toArray, List.set_cons_succ, List.set_cons_zero]
        refine tkH 16 (v := ?v175) rfl (by kernel_rfl) (fun _ _ _ h => h) (Or.inl ⟨by rfl, ?hy175⟩) hHeld ?rest175
        case hy175 => (intro w hSw; clear hSw; go_simp; try with_reducible rfl)
        try simp only [List.getElem_toArray, List.getElem_cons_succ, List.getElem_cons_zero, Act.put, List.setIfInBounds_toArray, List.set_cons_succ, List.set_cons_zero]
        refine tkH 17 (v := ?v176) rfl (by kernel_rfl) (fun _ _ _ h => h) (Or.inl ⟨by rfl, ?hy176⟩) hHeld ?rest176
        case hy176 => (intro w hSw; clear hSw; go_simp; try with_reducible rfl)
        try simp only [List.getElem_toArray, List.getElem_cons_succ, List.getElem_cons_zero, Act.put, List.setIfInBounds_toArray, List.set_cons_succ, List.set_cons_zero]
        refine tkH 18 (v := undef) rfl (by kernel_rfl) (fun _ _ _ h => h) (Or.inr ⟨by rfl, rfl⟩) hHeld ?rest177
        try simp only [List.getElem_toArray, List.getElem_cons_succ, List.getElem_cons_zero, Act.put, List.setIfInBounds_toArray, List.set_cons_succ, List.set_cons_zero]
        refine tkH 19 (v := undef) rfl (by kernel_rfl) (fun _ _ _ h => h) (Or.inr ⟨by rfl, rfl⟩) hHeld ?rest178
        try simp only [List.getElem_toArray, List.getElem_cons_succ, List.getElem_cons_zero, Act.put, List.setIfInBounds_toArray, List.set_cons_succ, List.set_cons_zero]
        refine tkH 20 (v := undef) rfl (by kernel_rfl) (fun _ _ _ h => h) (Or.inr ⟨by rfl, rfl⟩) hHeld ?rest179
        try simp only [List.getElem_toArray, List.getElem_cons_succ, List.getElem_cons_zero, Act.put, List.setIfInBounds_toArray, List.set_cons_succ, List.set_cons_zero]
        refine tkH 21 (v := undef) rfl (by kernel_rfl) (fun _ _ _ h => h) (Or.inr ⟨by rfl, rfl⟩) hHeld ?rest180
        try simp only [List.getElem_toArray, List.getElem_cons_succ, List.getElem_cons_zero, Act.put, List.setIfInBounds_toArray, List.set_cons_succ, List.set_cons_zero]
        refine tkH 22 (v := undef) rfl (by kernel_rfl) (fun _ _ _ h => h) (Or.inr ⟨by rfl, rfl⟩) hHeld ?rest181
        try simp only [List.getElem_toArray, List.getElem_cons_succ, List.getElem_cons_zero, Act.put, List.setIfInBounds_toArray, List.set_cons_succ, List.set_cons_zero]
        refine tkH 23 (v := ?v182) rfl (by kernel_rfl) (fun _ _ _ h => h) (Or.inl ⟨by rfl, ?hy182⟩) hHeld ?rest182
        case hy182 => (intro w hSw; clear hSw; go_simp; try with_reducible rfl)
        try simp only [List.getElem_toArray, List.getElem_cons_succ, List.getElem_cons_zero, Act.put, List.setIfInBounds_toArray, List.set_cons_succ, List.set_cons_zero]
        refine wpAnyH_done (by kernel_rfl) ?_ _
        clear hHeld hI
        go_wp2_with fail
        exact ⟨⟨j + 1, k, cap, ad, by omega, by omega, by go_num, rfl, HS, g0, hC0⟩, by simp [intOf]; omega⟩
      | true =>
        cases t3 with
        | false =>
          have n3 : ∀ w, (binOp .eql 27 (.agg (c.peers d).pr.vals.toArray) (.agg c.pr.vals.toArray)).run Try.prog w = .ok (.bool false) w := eqlIdn _ _ false ht3
          have hgo : goesB c d = false := by rw [hg3]; simp
          have e := cuts_no c L j d hk hgo
          have HS : Hid ((cutsL c (L.take (j + 1))).length = k) := by rw [e]; exact h0
          rw [← e] at g0
          clear h0 ht1 ht2 ht3 hg3 hgo e hdL
          refine wp_region_held_drew (S := fun w' => Blk p (c.peers d).arr 32 w' ∧ Blk w.heap.size (coc c) 35 w' ∧ Li nv 0 (some ⟨b, o, none⟩) L w') (by kernel_rfl) ⟨a3.drew, a.drew, l.below ((Below.refl _ _).drew)⟩ (fun hHeld => ?_)
          refine tkH 0 (v := ?v183) rfl (by kernel_rfl) (fun _ _ _ h => h) (Or.inl ⟨by rfl, ?hy183⟩) hHeld ?rest183
          case hy183 => (intro w hSw; clear hSw; go_simp; try with_reducible rfl)
          try simp only [List.getElem_toArray, List.getElem_cons_succ, List.getElem_cons_zero, Act.put, List.setIfInBounds_toArray, List.set_cons_succ, List.set_cons_zero]
          refine tkH 1 (v := ?v184) rfl (by kernel_rfl) (fun _ _ _ h => h) (Or.inl ⟨by rfl, ?hy184⟩) hHeld ?rest184
          case hy184 => (intro w hSw; have hc := hSw.1.cell 0 (.int .u32 ((c.peers d).inc : Int)) rfl; clear hSw; go_simp; try with_reducible rfl)
          try simp only [List.getElem_toArray, List.getElem_cons_succ, List.getElem_cons_zero, Act.put, List.setIfInBounds_toArray, List.set_cons_succ, List.set_cons_zero]
          refine tkH 2 (v := ?v185) rfl (by kernel_rfl) (fun _ _ _ h => h) (Or.inl ⟨by rfl, ?hy185⟩) hHeld ?rest185
          case hy185 => (intro w hSw; clear hSw; go_simp; try with_reducible rfl)
          try simp only [List.getElem_toArray, List.getElem_cons_succ, List.getElem_cons_zero, Act.put, List.setIfInBounds_toArray, List.set_cons_succ, List.set_cons_zero]
          refine tkH 3 (v := ?v186) rfl (by kernel_rfl) (fun _ _ _ h => h) (Or.inl ⟨by rfl, ?hy186⟩) hHeld ?rest186
          case hy186 => (intro w hSw; clear hSw; go_simp; try with_reducible rfl)
          try simp only [List.getElem_toArray, List.getElem_cons_succ, List.getElem_cons_zero, Act.put, List.setIfInBounds_toArray, List.set_cons_succ, List.set_cons_zero]
          refine tkH 4 (v := ?v187) rfl (by kernel_rfl) (fun _ _ _ h => h) (Or.inl ⟨by rfl, ?hy187⟩) hHeld ?rest187
          case hy187 => (intro w hSw; clear hSw; go_simp; try with_reducible rfl)
          try simp only [List.getElem_toArray, List.getElem_cons_succ, List.getElem_cons_zero, Act.put, List.setIfInBounds_toArray, List.set_cons_succ, List.set_cons_zero]
          refine tkH 5 (v := ?v188) rfl (by kernel_rfl) (fun _ _ _ h => h) (Or.inl ⟨by rfl, ?hy188⟩) hHeld ?rest188
          case hy188 => (intro w hSw; have hc := hSw.2.2.nat j d hk; clear hSw; go_simp; try with_reducible rfl)
          try simp only [List.getElem_toArray, List.getElem_cons_succ, List.getElem_cons_zero, Act.put, List.setIfInBounds_toArray, List.set_cons_succ, List.set_cons_zero]
          refine tkH 6 (v := ?v189) rfl (by kernel_rfl) (fun _ _ _ h => h) (Or.inl ⟨by rfl, ?hy189⟩) hHeld ?rest189
          case hy189 => (intro w hSw; clear hSw; go_simp; try with_reducible rfl)
          try simp only [List.getElem_toArray, List.getElem_cons_succ, List.getElem_cons_zero, Act.put, List.setIfInBounds_toArray, List.set_cons_succ, List.set_cons_zero]
          refine tkH 7 (v := ?v190) rfl (by kernel_rfl) (fun _ _ _ h => h) (Or.inl ⟨by rfl, ?hy190⟩) hHeld ?rest190
          case hy190 => (intro w hSw; clear hSw; go_simp; try with_reducible rfl)
          try simp only [List.getElem_toArray, List.getElem_cons_succ, List.getElem_cons_zero, Act.put, List.setIfInBounds_toArray, List.set_cons_succ, List.set_cons_zero]
          refine tkH 8 (v := ?v191) rfl (by kernel_rfl) (fun _ _ _ h => h) (Or.inl ⟨by rfl, ?hy191⟩) hHeld ?rest191
          case hy191 => (intro w hSw; have hc := hSw.2.1.cell (43 + d) _ (c.get_want d hd); clear hSw; go_simp; try with_reducible rfl)
          try simp only [List.getElem_toArray, List.getElem_cons_succ, List.getElem_cons_zero, Act.put, List.setIfInBounds_toArray, List.set_cons_succ, List.set_cons_zero]
          refine tkH 9 (v := ?v192) rfl (by kernel_rfl) (fun _ _ _ h => h) (Or.inl ⟨by rfl, ?hy192⟩) hHeld ?rest192
          case hy192 => (intro w hSw; clear hSw; go_simp; try with_reducible rfl)
          try simp only [List.getElem_toArray, List.getElem_cons_succ, List.getElem_cons_zero, Act.put, List.setIfInBounds_toArray, List.set_cons_succ, List.set_cons_zero]
          refine tkH 10 (v := ?v193) rfl (by kernel_rfl) (fun _ _ _ h => h) (Or.inl ⟨by rfl, ?hy193⟩) hHeld ?rest193
          case hy193 => (intro w hSw; clear hSw; go_simp; try with_reducible rfl)
          try simp only [List.getElem_toArray, List.getElem_cons_succ, List.getElem_cons_zero, Act.put, List.setIfInBounds_toArray, List.set_cons_succ, List.set_cons_zero]
          refine tkH 11 (v := ?v194) rfl (by kernel_rfl) (fun _ _ _ h => h) (Or.inl ⟨by rfl, ?hy194⟩) hHeld ?rest194
          case hy194 => (intro w hSw; clear hSw; go_simp; try with_reducible rfl)
          try simp only [List.getElem_toArray, List.getElem_cons_succ, List.getElem_cons_zero, Act.put, List.setIfInBounds_toArray, List.set_cons_succ, List.set_cons_zero]
          refine' tkH 12 (v := _) rfl (by kernel_rfl) (fun _ _ _ h => h) (yieldsIf_load_mid (by rfl) _ _ rfl p 4 rfl (c.peers d).pr.vals _ ?hS195 Try.underlying27 rfl sizeIdn) hHeld ?rest195
          case hS195 => exact fun w h => h.1.range 4 _ (c.peers d).p_pr
          try simp only [List.getElem_toArray, List.getElem_cons_succ, List.getElem_cons_zero, Act.put, List.setIfInBounds_toArray, List.set_cons_succ, List.set_cons_zero]
          refine tkH 13 (v := ?v196) rfl (by kernel_rfl) (fun _ _ _ h => h) (Or.inl ⟨by rfl, ?hy196⟩) hHeld ?rest196
          case hy196 => (intro w hSw; clear hSw; go_simp; try with_reducible rfl)
          try simp only [List.getElem_toArray, List.getElem_cons_succ, List.getElem_cons_zero, Act.put, List.setIfInBounds_toArray, List.set_cons_succ, List.set_cons_zero]
          refine' tkH 14 (v := _) rfl (by kernel_rfl) (fun _ _ _ h => h) (yieldsIf_load_mid (by rfl) _ _ rfl w.heap.size 40 rfl c.pr.vals _ ?hS197 Try.underlying27 rfl sizeIdn) hHeld ?rest197
          case hS197 => exact fun w h => h.2.1.range 40 _ c.p_pr
          try simp only [List.getElem_toArray, List.getElem_cons_succ, List.getElem_cons_zero, Act.put, List.setIfInBounds_toArray, List.set_cons_succ, List.set_cons_zero]
          refine tkH 15 (v := ?v198) rfl (by kernel_rfl) (fun _ _ _ h => h) (Or.inl ⟨by rfl, ?hy198⟩) hHeld ?rest198
          case hy198 => (intro w hSw; clear hSw; go_simp; try with_reducible rfl)
          try simp only [List.getElem_toArray, List.getElem_cons_succ, List.getElem_cons_zero, Act.put, List.setIfInBounds_toArray, List.set_cons_succ, List.set_cons_zero]
          refine tkH 16 (v := ?v199) rfl (by kernel_rfl) (fun _ _ _ h => h) (Or.inl ⟨by rfl, ?hy199⟩) hHeld ?rest199
          case hy199 => (intro w hSw; clear hSw; go_simp; try with_reducible rfl)
          try simp only [List.getElem_toArray, List.getElem_cons_succ, List.getElem_cons_zero, Act.put, List.setIfInBounds_toArray, List.set_cons_succ, List.set_cons_zero]
          refine tkH 17 (v := ?v200) rfl (by kernel_rfl) (fun _ _ _ h => h) (Or.inl ⟨by rfl, ?hy200⟩) hHeld ?rest200
          case hy200 => (intro w hSw; clear hSw; go_simp; try with_reducible rfl)
          try simp only [List.getElem_toArray, List.getElem_cons_succ, List.getElem_cons_zero, Act.put, List.setIfInBounds_toArray, List.set_cons_succ, List.set_cons_zero]
          refine tkH 18 (v := undef) rfl (by kernel_rfl) (fun _ _ _ h => h) (Or.inr ⟨by rfl, rfl⟩) hHeld ?rest201
          try simp only [List.getElem_toArray, List.getElem_cons_succ, List.getElem_cons_zero, Act.put, List.setIfInBounds_toArray, List.set_cons_succ, List.set_cons_zero]
          refine tkH 19 (v := undef) rfl (by kernel_rfl) (fun _ _ _ h => h) (Or.inr ⟨by rfl, rfl⟩) hHeld ?rest202
          try simp only [List.getElem_toArray, List.getElem_cons_succ, List.getElem_cons_zero, Act.put, List.setIfInBounds_toArray, List.set_cons_succ, List.set_cons_zero]
          refine tkH 20 (v := undef) rfl (by kernel_rfl) (fun _ _ _ h => h) (Or.inr ⟨by rfl, rfl⟩) hHeld ?rest203
          try simp only [List.getElem_toArray, List.getElem_cons_succ, List.getElem_cons_zero, Act.put, List.setIfInBounds_toArray, List.set_cons_succ, List.set_cons_zero]
          refine tkH 21 (v := undef) rfl (by kernel_rfl) (fun _ _ _ h => h) (Or.inr ⟨by rfl, rfl⟩) hHeld ?rest204
          try simp only [List.getElem_toArray, List.getElem_cons_succ, List.getElem_cons_zero, Act.put, List.setIfInBounds_toArray, List.set_cons_succ, List.set_cons_zero]
          refine tkH 22 (v := undef) rfl (by kernel_rfl) (fun _ _ _ h => h) (Or.inr ⟨by rfl, rfl⟩) hHeld ?rest205
          try simp only [List.getElem_toArray, List.getElem_cons_succ, List.getElem_cons_zero, Act.put, List.setIfInBounds_toArray, List.set_cons_succ, List.set_cons_zero]
          refine tkH 23 (v := ?v206) rfl (by kernel_rfl) (fun _ _ _ h => h) (Or.inl ⟨by rfl, ?hy206⟩) hHeld ?rest206
          case hy206 => (intro w hSw; clear hSw; go_simp; try with_reducible rfl)
          try simp only [List.getElem_toArray, List.getElem_cons_succ, List.getElem_cons_zero, Act.put, List.setIfInBounds_toArray, List.set_cons_succ, List.set_cons_zero]
          refine wpAnyH_done (by kernel_rfl) ?_ _
          clear hHeld hI
          go_wp2_with fail
          exact ⟨⟨j + 1, k, cap, ad, by omega, by omega, by go_num, rfl, HS, g0, hC0⟩, by simp [intOf]; omega⟩
        | true =>
          have n3 : ∀ w, (binOp .eql 27 (.agg (c.peers d).pr.vals.toArray) (.agg c.pr.vals.toArray)).run Try.prog w = .ok (.bool true) w := eqlIdn _ _ true ht3
          cases t2 with
          | false =>
            have n2 : ∀ w, (binOp .eql 27 (.agg (c.peers d).conf.vals.toArray) (.agg c.conf.vals.toArray)).run Try.prog w = .ok (.bool false) w := eqlIdn _ _ false ht2
            have hgo : goesB c d = false := by rw [hg3]; rfl
            have e := cuts_no c L j d hk hgo
            have HS : Hid ((cutsL c (L.take (j + 1))).length = k) := by rw [e]; exact h0
            rw [← e] at g0
            clear h0 ht1 ht2 ht3 hg3 hgo e hdL
            refine wp_region_held_drew (S := fun w' => Blk p (c.peers d).arr 32 w' ∧ Blk w.heap.size (coc c) 35 w' ∧ Li nv 0 (some ⟨b, o, none⟩) L w') (by kernel_rfl) ⟨a3.drew, a.drew, l.below ((Below.refl _ _).drew)⟩ (fun hHeld => ?_)
            refine tkH 0 (v := ?v207) rfl (by kernel_rfl) (fun _ _ _ h => h) (Or.inl ⟨by rfl, ?hy207⟩) hHeld ?rest207
            case hy207 => (intro w hSw; clear hSw; go_simp; try with_reducible rfl)
            try simp only [List.getElem_toArray, List.getElem_cons_succ, List.getElem_cons_zero, Act.put, List.setIfInBounds_toArray, List.set_cons_succ, List.set_cons_zero]
            refine tkH 1 (v := ?v208) rfl (by kernel_rfl) (fun _ _ _ h => h) (Or.inl ⟨by rfl, ?hy208⟩) hHeld ?rest208
            case hy208 => (intro w hSw; have hc := hSw.1.cell 0 (.int .u32 ((c.peers d).inc : Int)) rfl; clear hSw; go_simp; try with_reducible rfl)
            try simp only [List.getElem_toArray, List.getElem_cons_succ, List.getElem_cons_zero, Act.put, List.setIfInBounds_toArray, List.set_cons_succ, List.set_cons_zero]
            refine tkH 2 (v := ?v209) rfl (by kernel_rfl) (fun _ _ _ h => h) (Or.inl ⟨by rfl, ?hy209⟩) hHeld ?rest209
            case hy209 => (intro w hSw; clear hSw; go_simp; try with_reducible rfl)
            try simp only [List.getElem_toArray, List.getElem_cons_succ, List.getElem_cons_zero, Act.put, List.setIfInBounds_toArray, List.set_cons_succ, List.set_cons_zero]
            refine tkH 3 (v := ?v210) rfl (by kernel_rfl) (fun _ _ _ h => h) (Or.inl ⟨by rfl, ?hy210⟩) hHeld ?rest210
            case hy210 => (intro w hSw; clear hSw; go_simp; try with_reducible rfl)
            try simp only [List.getElem_toArray, List.getElem_cons_succ, List.getElem_cons_zero, Act.put, List.setIfInBounds_toArray, List.set_cons_succ, List.set_cons_zero]
            refine tkH 4 (v := ?v211) rfl (by kernel_rfl) (fun _ _ _ h => h) (Or.inl ⟨by rfl, ?hy211⟩) hHeld ?rest211
            case hy211 => (intro w hSw; clear hSw; go_simp; try with_reducible rfl)
            try simp only [List.getElem_toArray, List.getElem_cons_succ, List.getElem_cons_zero, Act.put, List.setIfInBounds_toArray, List.set_cons_succ, List.set_cons_zero]
            refine tkH 5 (v := ?v212) rfl (by kernel_rfl) (fun _ _ _ h => h) (Or.inl ⟨by rfl, ?hy212⟩) hHeld ?rest212
            case hy212 => (intro w hSw; have hc := hSw.2.2.nat j d hk; clear hSw; go_simp; try with_reducible rfl)
            try simp only [List.getElem_toArray, List.getElem_cons_succ, List.getElem_cons_zero, Act.put, List.setIfInBounds_toArray, List.set_cons_succ, List.set_cons_zero]
            refine tkH 6 (v := ?v213) rfl (by kernel_rfl) (fun _ _ _ h => h) (Or.inl ⟨by rfl, ?hy213⟩) hHeld ?rest213
            case hy213 => (intro w hSw; clear hSw; go_simp; try with_reducible rfl)
            try simp only [List.getElem_toArray, List.getElem_cons_succ, List.getElem_cons_zero, Act.put, List.setIfInBounds_toArray, List.set_cons_succ, List.set_cons_zero]
            refine tkH 7 (v := ?v214) rfl (by kernel_rfl) (fun _ _ _ h => h) (Or.inl ⟨by rfl, ?hy214⟩) hHeld ?rest214
            case hy214 => (intro w hSw; clear hSw; go_simp; try with_reducible rfl)
            try simp only [List.getElem_toArray, List.getElem_cons_succ, List.getElem_cons_zero, Act.put, List.setIfInBounds_toArray, List.set_cons_succ, List.set_cons_zero]
            refine tkH 8 (v := ?v215) rfl (by kernel_rfl) (fun _ _ _ h => h) (Or.inl ⟨by rfl, ?hy215⟩) hHeld ?rest215
            case hy215 => (intro w hSw; have hc := hSw.2.1.cell (43 + d) _ (c.get_want d hd); clear hSw; go_simp; try with_reducible rfl)
            try simp only [List.getElem_toArray, List.getElem_cons_succ, List.getElem_cons_zero, Act.put, List.setIfInBounds_toArray, List.set_cons_succ, List.set_cons_zero]
            refine tkH 9 (v := ?v216) rfl (by kernel_rfl) (fun _ _ _ h => h) (Or.inl ⟨by rfl, ?hy216⟩) hHeld ?rest216
            case hy216 => (intro w hSw; clear hSw; go_simp; try with_reducible rfl)
            try simp only [List.getElem_toArray, List.getElem_cons_succ, List.getElem_cons_zero, Act.put, List.setIfInBounds_toArray, List.set_cons_succ, List.set_cons_zero]
            refine tkH 10 (v := ?v217) rfl (by kernel_rfl) (fun _ _ _ h => h) (Or.inl ⟨by rfl, ?hy217⟩) hHeld ?rest217
            case hy217 => (intro w hSw; clear hSw; go_simp; try with_reducible rfl)
            try simp only [List.getElem_toArray, List.getElem_cons_succ, List.getElem_cons_zero, Act.put, List.setIfInBounds_toArray, List.set_cons_succ, List.set_cons_zero]
            refine tkH 11 (v := ?v218) rfl (by kernel_rfl) (fun _ _ _ h => h) (Or.inl ⟨by rfl, ?hy218⟩) hHeld ?rest218
            case hy218 => (intro w hSw; clear hSw; go_simp; try with_reducible rfl)
            try simp only [List.getElem_toArray, List.getElem_cons_succ, List.getElem_cons_zero, Act.put, List.setIfInBounds_toArray, List.set_cons_succ, List.set_cons_zero]
            refine' tkH 12 (v := _) rfl (by kernel_rfl) (fun _ _ _ h => h) (yieldsIf_load_mid (by rfl) _ _ rfl p 4 rfl (c.peers d).pr.vals _ ?hS219 Try.underlying27 rfl sizeIdn) hHeld ?rest219
            case hS219 => exact fun w h => h.1.range 4 _ (c.peers d).p_pr
            try simp only [List.getElem_toArray, List.getElem_cons_succ, List.getElem_cons_zero, Act.put, List.setIfInBounds_toArray, List.set_cons_succ, List.set_cons_zero]
            refine tkH 13 (v := ?v220) rfl (by kernel_rfl) (fun _ _ _ h => h) (Or.inl ⟨by rfl, ?hy220⟩) hHeld ?rest220
            case hy220 => (intro w hSw; clear hSw; go_simp; try with_reducible rfl)
            try simp only [List.getElem_toArray, List.getElem_cons_succ, List.getElem_cons_zero, Act.put, List.setIfInBounds_toArray, List.set_cons_succ, List.set_cons_zero]
            refine' tkH 14 (v := _) rfl (by kernel_rfl) (fun _ _ _ h => h) (yieldsIf_load_mid (by rfl) _ _ rfl w.heap.size 40 rfl c.pr.vals _ ?hS221 Try.underlying27 rfl sizeIdn) hHeld ?rest221
            case hS221 => exact fun w h => h.2.1.range 40 _ c.p_pr
            try simp only [List.getElem_toArray, List.getElem_cons_succ, List.getElem_cons_zero, Act.put, List.setIfInBounds_toArray, List.set_cons_succ, List.set_cons_zero]
            refine tkH 15 (v := ?v222) rfl (by kernel_rfl) (fun _ _ _ h => h) (Or.inl ⟨by rfl, ?hy222⟩) hHeld ?rest222
            case hy222 => (intro w hSw; clear hSw; go_simp; try with_reducible rfl)
            try simp only [List.getElem_toArray, List.getElem_cons_succ, List.getElem_cons_zero, Act.put, List.setIfInBounds_toArray, List.set_cons_succ, List.set_cons_zero]
            refine tkH 16 (v := ?v223) rfl (by kernel_rfl) (fun _ _ _ h => h) (Or.inl ⟨by rfl, ?hy223⟩) hHeld ?rest223
            case hy223 => (intro w hSw; clear hSw; go_simp; try with_reducible rfl)
            try simp only [List.getElem_toArray, List.getElem_cons_succ, List.getElem_cons_zero, Act.put, List.setIfInBounds_toArray, List.set_cons_succ, List.set_cons_zero]
            refine tkH 17 (v := ?v224) rfl (by kernel_rfl) (fun _ _ _ h => h) (Or.inl ⟨by rfl, ?hy224⟩) hHeld ?rest224
            case hy224 => (intro w hSw; clear hSw; go_simp; try with_reducible rfl)
            try simp only [List.getElem_toArray, List.getElem_cons_succ, List.getElem_cons_zero, Act.put, List.setIfInBounds_toArray, List.set_cons_succ, List.set_cons_zero]
            refine tkH 18 (v := ?v225) rfl (by kernel_rfl) (fun _ _ _ h => h) (Or.inl ⟨by rfl, ?hy225⟩) hHeld ?rest225
            case hy225 => (intro w hSw; clear hSw; go_simp; try with_reducible rfl)
            try simp only [List.getElem_toArray, List.getElem_cons_succ, List.getElem_cons_zero, Act.put, List.setIfInBounds_toArray, List.set_cons_succ, List.set_cons_zero]
            refine' tkH 19 (v := _) rfl (by kernel_rfl) (fun _ _ _ h => h) (yieldsIf_load_mid (by rfl) _ _ rfl p 1 rfl (c.peers d).conf.vals _ ?hS226 Try.underlying27 rfl sizeIdn) hHeld ?rest226
            case hS226 => exact fun w h => h.1.range 1 _ (c.peers d).p_conf
            try simp only [List.getElem_toArray, List.getElem_cons_succ, List.getElem_cons_zero, Act.put, List.setIfInBounds_toArray, List.set_cons_succ, List.set_cons_zero]
            refine tkH 20 (v := ?v227) rfl (by kernel_rfl) (fun _ _ _ h => h) (Or.inl ⟨by rfl, ?hy227⟩) hHeld ?rest227
            case hy227 => (intro w hSw; clear hSw; go_simp; try with_reducible rfl)
            try simp only [List.getElem_toArray, List.getElem_cons_succ, List.getElem_cons_zero, Act.put, List.setIfInBounds_toArray, List.set_cons_succ, List.set_cons_zero]
            refine' tkH 21 (v := _) rfl (by kernel_rfl) (fun _ _ _ h => h) (yieldsIf_load_mid (by rfl) _ _ rfl w.heap.size 20 rfl c.conf.vals _ ?hS228 Try.underlying27 rfl sizeIdn) hHeld ?rest228
            case hS228 => exact fun w h => h.2.1.range 20 _ c.p_conf
            try simp only [List.getElem_toArray, List.getElem_cons_succ, List.getElem_cons_zero, Act.put, List.setIfInBounds_toArray, List.set_cons_succ, List.set_cons_zero]
            refine tkH 22 (v := ?v229) rfl (by kernel_rfl) (fun _ _ _ h => h) (Or.inl ⟨by rfl, ?hy229⟩) hHeld ?rest229
            case hy229 => (intro w hSw; clear hSw; go_simp; try with_reducible rfl)
            try simp only [List.getElem_toArray, List.getElem_cons_succ, List.getElem_cons_zero, Act.put, List.setIfInBounds_toArray, List.set_cons_succ, List.set_cons_zero]
            refine tkH 23 (v := ?v230) rfl (by kernel_rfl) (fun _ _ _ h => h) (Or.inl ⟨by rfl, ?hy230⟩) hHeld ?rest230
            case hy230 => (intro w hSw; clear hSw; go_simp; try with_reducible rfl)
            try simp only [List.getElem_toArray, List.getElem_cons_succ, List.getElem_cons_zero, Act.put, List.setIfInBounds_toArray, List.set_cons_succ, List.set_cons_zero]
            refine wpAnyH_done (by kernel_rfl) ?_ _
            clear hHeld hI
            go_wp2_with fail
            exact ⟨⟨j + 1, k, cap, ad, by omega, by omega, by go_num, rfl, HS, g0, hC0⟩, by simp [intOf]; omega⟩
          | true =>
            have n2 : ∀ w, (binOp .eql 27 (.agg (c.peers d).conf.vals.toArray) (.agg c.conf.vals.toArray)).run Try.prog w = .ok (.bool true) w := eqlIdn _ _ true ht2
            have hgo : goesB c d = true := by rw [hg3]; rfl
            have e := cuts_yes c L j d hk hgo
            have HS : Hid ((cutsL c (L.take (j + 1))).length = k + 1) := by
              show (cutsL c (L.take (j + 1))).length = k + 1
              rw [e, List.length_append, h0.out]; rfl
            have hlen := h0.out
            clear h0 ht1 ht2 ht3 hg3 hgo hdL
            refine wp_region_held_drew (S := fun w' => Blk p (c.peers d).arr 32 w' ∧ Blk w.heap.size (coc c) 35 w' ∧ Li nv 0 (some ⟨b, o, none⟩) L w') (by kernel_rfl) ⟨a3.drew, a.drew, l.below ((Below.refl _ _).drew)⟩ (fun hHeld => ?_)
            refine tkH 0 (v := ?v231) rfl (by kernel_rfl) (fun _ _ _ h => h) (Or.inl ⟨by rfl, ?hy231⟩) hHeld ?rest231
            case hy231 => (intro w hSw; clear hSw; go_simp; try with_reducible rfl)
            try simp only [List.getElem_toArray, List.getElem_cons_succ, List.getElem_cons_zero, Act.put, List.setIfInBounds_toArray, List.set_cons_succ, List.set_cons_zero]
            refine tkH 1 (v := ?v232) rfl (by kernel_rfl) (fun _ _ _ h => h) (Or.inl ⟨by rfl, ?hy232⟩) hHeld ?rest232
            case hy232 => (intro w hSw; have hc := hSw.1.cell 0 (.int .u32 ((c.peers d).inc : Int)) rfl; clear hSw; go_simp; try with_reducible rfl)
            try simp only [List.getElem_toArray, List.getElem_cons_succ, List.getElem_cons_zero, Act.put, List.setIfInBounds_toArray, List.set_cons_succ, List.set_cons_zero]
            refine tkH 2 (v := ?v233) rfl (by kernel_rfl) (fun _ _ _ h => h) (Or.inl ⟨by rfl, ?hy233⟩) hHeld ?rest233
            case hy233 => (intro w hSw; clear hSw; go_simp; try with_reducible rfl)
            try simp only [List.getElem_toArray, List.getElem_cons_succ, List.getElem_cons_zero, Act.put, List.setIfInBounds_toArray, List.set_cons_succ, List.set_cons_zero]
            refine tkH 3 (v := ?v234) rfl (by kernel_rfl) (fun _ _ _ h => h) (Or.inl ⟨by rfl, ?hy234⟩) hHeld ?rest234
            case hy234 => (intro w hSw; clear hSw; go_simp; try with_reducible rfl)
            try simp only [List.getElem_toArray, List.getElem_cons_succ, List.getElem_cons_zero, Act.put, List.setIfInBounds_toArray, List.set_cons_succ, List.set_cons_zero]
            refine tkH 4 (v := ?v235) rfl (by kernel_rfl) (fun _ _ _ h => h) (Or.inl ⟨by rfl, ?hy235⟩) hHeld ?rest235
            case hy235 => (intro w hSw; clear hSw; go_simp; try with_reducible rfl)
            try simp only [List.getElem_toArray, List.getElem_cons_succ, List.getElem_cons_zero, Act.put, List.setIfInBounds_toArray, List.set_cons_succ, List.set_cons_zero]
            refine tkH 5 (v := ?v236) rfl (by kernel_rfl) (fun _ _ _ h => h) (Or.inl ⟨by rfl, ?hy236⟩) hHeld ?rest236
            case hy236 => (intro w hSw; have hc := hSw.2.2.nat j d hk; clear hSw; go_simp; try with_reducible rfl)
            try simp only [List.getElem_toArray, List.getElem_cons_succ, List.getElem_cons_zero, Act.put, List.setIfInBounds_toArray, List.set_cons_succ, List.set_cons_zero]
            refine tkH 6 (v := ?v237) rfl (by kernel_rfl) (fun _ _ _ h => h) (Or.inl ⟨by rfl, ?hy237⟩) hHeld ?rest237
            case hy237 => (intro w hSw; clear hSw; go_simp; try with_reducible rfl)
            try simp only [List.getElem_toArray, List.getElem_cons_succ, List.getElem_cons_zero, Act.put, List.setIfInBounds_toArray, List.set_cons_succ, List.set_cons_zero]
            refine tkH 7 (v := ?v238) rfl (by kernel_rfl) (fun _ _ _ h => h) (Or.inl ⟨by rfl, ?hy238⟩) hHeld ?rest238
            case hy238 => (intro w hSw; clear hSw; go_simp; try with_reducible rfl)
            try simp only [List.getElem_toArray, List.getElem_cons_succ, List.getElem_cons_zero, Act.put, List.setIfInBounds_toArray, List.set_cons_succ, List.set_cons_zero]
            refine tkH 8 (v := ?v239) rfl (by kernel_rfl) (fun _ _ _ h => h) (Or.inl ⟨by rfl, ?hy239⟩) hHeld ?rest239
            case hy239 => (intro w hSw; have hc := hSw.2.1.cell (43 + d) _ (c.get_want d hd); clear hSw; go_simp; try with_reducible rfl)
            try simp only [List.getElem_toArray, List.getElem_cons_succ, List.getElem_cons_zero, Act.put, List.setIfInBounds_toArray, List.set_cons_succ, List.set_cons_zero]
            refine tkH 9 (v := ?v240) rfl (by kernel_rfl) (fun _ _ _ h => h) (Or.inl ⟨by rfl, ?hy240⟩) hHeld ?rest240
            case hy240 => (intro w hSw; clear hSw; go_simp; try with_reducible rfl)
            try simp only [List.getElem_toArray, List.getElem_cons_succ, List.getElem_cons_zero, Act.put, List.setIfInBounds_toArray, List.set_cons_succ, List.set_cons_zero]
            refine tkH 10 (v := ?v241) rfl (by kernel_rfl) (fun _ _ _ h => h) (Or.inl ⟨by rfl, ?hy241⟩) hHeld ?rest241
            case hy241 => (intro w hSw; clear hSw; go_simp; try with_reducible rfl)
            try simp only [List.getElem_toArray, List.getElem_cons_succ, List.getElem_cons_zero, Act.put, List.setIfInBounds_toArray, List.set_cons_succ, List.set_cons_zero]
            refine tkH 11 (v := ?v242) rfl (by kernel_rfl) (fun _ _ _ h => h) (Or.inl ⟨by rfl, ?hy242⟩) hHeld ?rest242
            case hy242 => (intro w hSw; clear hSw; go_simp; try with_reducible rfl)
            try simp only [List.getElem_toArray, List.getElem_cons_succ, List.getElem_cons_zero, Act.put, List.setIfInBounds_toArray, List.set_cons_succ, List.set_cons_zero]
            refine' tkH 12 (v := _) rfl (by kernel_rfl) (fun _ _ _ h => h) (yieldsIf_load_mid (by rfl) _ _ rfl p 4 rfl (c.peers d).pr.vals _ ?hS243 Try.underlying27 rfl sizeIdn) hHeld ?rest243
            case hS243 => exact fun w h => h.1.range 4 _ (c.peers d).p_pr
            try simp only [List.getElem_toArray, List.getElem_cons_succ, List.getElem_cons_zero, Act.put, List.setIfInBounds_toArray, List.set_cons_succ, List.set_cons_zero]
            refine tkH 13 (v := ?v244) rfl (by kernel_rfl) (fun _ _ _ h => h) (Or.inl ⟨by rfl, ?hy244⟩) hHeld ?rest244
            case hy244 => (intro w hSw; clear hSw; go_simp; try with_reducible rfl)
            try simp only [List.getElem_toArray, List.getElem_cons_succ, List.getElem_cons_zero, Act.put, List.setIfInBounds_toArray, List.set_cons_succ, List.set_cons_zero]
            refine' tkH 14 (v := _) rfl (by kernel_rfl) (fun _ _ _ h => h) (yieldsIf_load_mid (by rfl) _ _ rfl w.heap.size 40 rfl c.pr.vals _ ?hS245 Try.underlying27 rfl sizeIdn) hHeld ?rest245
            case hS245 => exact fun w h => h.2.1.range 40 _ c.p_pr
            try simp only [List.getElem_toArray, List.getElem_cons_succ, List.getElem_cons_zero, Act.put, List.setIfInBounds_toArray, List.set_cons_succ, List.set_cons_zero]
            refine tkH 15 (v := ?v246) rfl (by kernel_rfl) (fun _ _ _ h => h) (Or.inl ⟨by rfl, ?hy246⟩) hHeld ?rest246
            case hy246 => (intro w hSw; clear hSw; go_simp; try with_reducible rfl)
            try simp only [List.getElem_toArray, List.getElem_cons_succ, List.getElem_cons_zero, Act.put, List.setIfInBounds_toArray, List.set_cons_succ, List.set_cons_zero]
            refine tkH 16 (v := ?v247) rfl (by kernel_rfl) (fun _ _ _ h => h) (Or.inl ⟨by rfl, ?hy247⟩) hHeld ?rest247
            case hy247 => (intro w hSw; clear hSw; go_simp; try with_reducible rfl)
            try simp only [List.getElem_toArray, List.getElem_cons_succ, List.getElem_cons_zero, Act.put, List.setIfInBounds_toArray, List.set_cons_succ, List.set_cons_zero]
            refine tkH 17 (v := ?v248) rfl (by kernel_rfl) (fun _ _ _ h => h) (Or.inl ⟨by rfl, ?hy248⟩) hHeld ?rest248
            case hy248 => (intro w hSw; clear hSw; go_simp; try with_reducible rfl)
            try simp only [List.getElem_toArray, List.getElem_cons_succ, List.getElem_cons_zero, Act.put, List.setIfInBounds_toArray, List.set_cons_succ, List.set_cons_zero]
            refine tkH 18 (v := ?v249) rfl (by kernel_rfl) (fun _ _ _ h => h) (Or.inl ⟨by rfl, ?hy249⟩) hHeld ?rest249
            case hy249 => (intro w hSw; clear hSw; go_simp; try with_reducible rfl)
            try simp only [List.getElem_toArray, List.getElem_cons_succ, List.getElem_cons_zero, Act.put, List.setIfInBounds_toArray, List.set_cons_succ, List.set_cons_zero]
            refine' tkH 19 (v := _) rfl (by kernel_rfl) (fun _ _ _ h => h) (yieldsIf_load_mid (by rfl) _ _ rfl p 1 rfl (c.peers d).conf.vals _ ?hS250 Try.underlying27 rfl sizeIdn) hHeld ?rest250
            case hS250 => exact fun w h => h.1.range 1 _ (c.peers d).p_conf
            try simp only [List.getElem_toArray, List.getElem_cons_succ, List.getElem_cons_zero, Act.put, List.setIfInBounds_toArray, List.set_cons_succ, List.set_cons_zero]
            refine tkH 20 (v := ?v251) rfl (by kernel_rfl) (fun _ _ _ h => h) (Or.inl ⟨by rfl, ?hy251⟩) hHeld ?rest251
            case hy251 => (intro w hSw; clear hSw; go_simp; try with_reducible rfl)
            try simp only [List.getElem_toArray, List.getElem_cons_succ, List.getElem_cons_zero, Act.put, List.setIfInBounds_toArray, List.set_cons_succ, List.set_cons_zero]
            refine' tkH 21 (v := _) rfl (by kernel_rfl) (fun _ _ _ h => h) (yieldsIf_load_mid (by rfl) _ _ rfl w.heap.size 20 rfl c.conf.vals _ ?hS252 Try.underlying27 rfl sizeIdn) hHeld ?rest252
            case hS252 => exact fun w h => h.2.1.range 20 _ c.p_conf
            try simp only [List.getElem_toArray, List.getElem_cons_succ, List.getElem_cons_zero, Act.put, List.setIfInBounds_toArray, List.set_cons_succ, List.set_cons_zero]
            refine tkH 22 (v := ?v253) rfl (by kernel_rfl) (fun _ _ _ h => h) (Or.inl ⟨by rfl, ?hy253⟩) hHeld ?rest253
            case hy253 => (intro w hSw; clear hSw; go_simp; try with_reducible rfl)
            try simp only [List.getElem_toArray, List.getElem_cons_succ, List.getElem_cons_zero, Act.put, List.setIfInBounds_toArray, List.set_cons_succ, List.set_cons_zero]
            refine tkH 23 (v := ?v254) rfl (by kernel_rfl) (fun _ _ _ h => h) (Or.inl ⟨by rfl, ?hy254⟩) hHeld ?rest254
            case hy254 => (intro w hSw; clear hSw; go_simp; try with_reducible rfl)
            try simp only [List.getElem_toArray, List.getElem_cons_succ, List.getElem_cons_zero, Act.put, List.setIfInBounds_toArray, List.set_cons_succ, List.set_cons_zero]
            refine wpAnyH_done (by kernel_rfl) ?_ _
            have a3 := hHeld.1
            clear hHeld a l
            have hb := hC0
            have hg := g0
            clear hC0 g0
            go_upto_region 8 with fail
            generalize W3.drew = wd at *
            have hg2 := hg.below (below_box wd (.cells (row8 (c.peers d).cut).toArray 29))
            have hx := (li_box (f := row8) wd (c.peers d).cut 29 0 (Nat.zero_le _)).src (P := Try.prog) row8_length row8_one Try.underlying130 1
            have hs2 : w1.heap.size ≤ (wd.alloc (.cells (row8 (c.peers d).cut).toArray 29)).heap.size := by have := hb.size; simp; omega
            have hb2 : Below w1.heap.size w1 (wd.alloc (.cells (row8 (c.peers d).cut).toArray 29)) := hb.alloc hb.size _
            clear hg
            go_wp2_with (first | refine load_part rfl 29 _ rfl (o := 7) a3 rfl (row8 (c.peers d).cut) (c.peers d).p_cut Try.underlying29 rfl sizeCt ?_ | refine box_c1 rfl _ rfl (c.peers d).cut rfl ?_ | (refine append_lg row8_length rfl _ _ rfl Try.underlying130 hI hz0 hsz hby hzs hg2 hs2 hlen rfl (M := [(c.peers d).cut]) (by simp) hx rfl (by simp; omega) (by simp [maxLen]; omega) ?_; intro ad' cap' w5 hg5 hb5; rw [← e] at hg5; have hb6 : Below w1.heap.size w1 w5 := hb2.trans hb5))
            exact ⟨⟨j + 1, k + 1, cap', ad', by omega, by omega, by go_num, rfl, HS, hg5, hb6⟩, by simp [intOf]; omega⟩
    · obtain rfl : j = n := by omega
      have e : L.take j = L := List.take_of_length_le (by rw [HN.out]; omega)
      rw [e] at h0 hg
      have hBr : Below w.heap.size w wr := hB.trans (hb.mono hB.size)
      have pu := fun (u : World) (h : Li row8 0 ad (cutsL c L) u) => runion_ok (cutsL c L) ad cap (by rw [h0.out]; omega) u h
      rw [h0.out, union_cuts] at pu
      have er : targL c L = R := by rw [← HR.out, targC, HL.out]
      rw [er] at pu
      replace a1 := a1.below hb
      have hS := hg.li.mono (Nat.zero_le _)
      clear h0 hg hI e HR er
      go_wp2_with fail
      refine (pu _ hS).mono ?_
      rintro r w2 ⟨rfl, hb7⟩
      replace a1 := a1.below hb7
      replace hBr := hBr.trans (hb7.mono hBr.size)
      clear pu hS hb7
      go_wp2_with (refine store_part rfl 29 _ _ rfl (off := 0) (cells := mbc R) a1 rfl rfl sizeCt (Nat.le_refl _) (mbc_one _) ?_; intro w9 b9 k9; rw [mb_all] at b9; have hB9 : Below w.heap.size w w9 := hBr.trans (k9.below1 (by omega) hBr.size))
      exact bodyPost_ret (w := w9) (v := .agg (mbc R)) (ret_one rfl rfl b9 Try.underlying29 rfl sizeCt) rfl ⟨rfl, hB9⟩

end Go.Proofs.Ythgmecgknhphmaa
