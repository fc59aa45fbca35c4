/-
  Whether all have promised, whether all are done, what they have received together, as the document says: what each call answers.
  No condition.
-/
import Derived.Test.YthgmecgknhphmaaGaG
import Derived.Test.YthgmecgknhphmaaGaA
import Derived.Test.YthgmecgknhphmaaCtV
namespace Go.Proofs.Ythgmecgknhphmaa
set_option maxRecDepth 10000
set_option linter.unusedSimpArgs false
open Go.RowKit Go.Sort
set_option linter.unusedVariables false

theorem skip_not' {P : Program} {ops : Array Oper} {rest : List Oper} {o : Oper} {a : Act} {w : World} {Q : Exit → Act → World → Prop} (hw : Region.wanted o (yielded ops a.tmps) = false) (h : wpList P ops Q rest (a.put o.dst undef) w) : wpList P ops Q (o :: rest) a w :=
  wpList_step fun _ hK => by rw [if_neg (by rw [hw]; simp)]; exact hK _ _ h
theorem each_no (c : Co) (q : Pe → Bool) (d : Nat) (hd : d ∈ oth c.want c.self) (h : (matB c d && q (c.peers d)) = false) : eachB c q = false := by
  rw [eachB, List.all_eq_false]
  exact ⟨d, hd, by rw [h]; simp⟩
theorem each_yes (c : Co) (q : Pe → Bool) (h : ∀ d ∈ oth c.want c.self, (matB c d && q (c.peers d)) = true) : eachB c q = true := by
  rw [eachB, List.all_eq_true]
  exact h

set_option maxHeartbeats 4000000 in
theorem rall_ok (c : Co) (w : World) : Calls Try.prog 56 #[.agg (coc c)] w fun e w' => e = .returned (.bool (allB c)) ∧ Below w.heap.size w w' := by
  have a0 := blk_new w (coc c) 35
  have hB : Below w.heap.size w (w.alloc (.cells (coc c) 35)) := below_box w _
  obtain ⟨R, HR⟩ : ∃ R, Hid (allB c = R) := ⟨_, rfl⟩
  rw [HR.out]
  go_enter Try.func56, Try.ntmps56
  go_upto_region 1 with fail
  generalize w.alloc (Obj.cells (coc c) 35) = W at a0 hB ⊢
  go_wp2_with (refine load_blk rfl 35 _ rfl a0 rfl Try.underlying35 rfl sizeCo ?_)
  refine (rothers_ok c _).mono ?_
  rintro r w1 ⟨⟨la, lc, rfl, hL⟩, hb⟩
  replace a0 := a0.below hb
  replace hB := hB.trans (hb.mono hB.size)
  clear hb 
  replace hL := hL.mono (Nat.zero_le _)
  have hn8 := oth_len c.want c.self
  obtain ⟨L, HL⟩ : ∃ L, Hid (oth c.want c.self = L) := ⟨_, rfl⟩
  have HM : Hid (∀ d ∈ L, d < 8) := fun d hd => by rw [← HL.out] at hd; exact ((mem_oth _ _ _).1 hd).1
  rw [HL.out] at hL hn8 ⊢
  obtain ⟨n, hn⟩ : ∃ n, L.length = n := ⟨_, rfl⟩
  rw [hn] at hn8 ⊢
  have HN : Hid (L.length = n) := hn
  clear hn
  go_wp2_with fail
  go_loopw [4] (fun iv wr => ∃ j : Nat, j ≤ n ∧ iv = .int .i64 j ∧ Hid (∀ d ∈ L.take j, (matB c d && Idn.same (c.peers d).pr c.pr) = true) ∧ Below w1.heap.size w1 wr) (fun iv _ => n - (intOf iv).toNat)
  case atStart => exact ⟨0, by omega, rfl, fun d h => by simp at h, Below.refl _ _⟩
  case round =>
    obtain ⟨j, hj, rfl, h0, hb⟩ := hrel
    by_cases hjn : j < n
    · have j0 : (j : Int) < (n : Int) := by omega
      have j1 : (0 : Int) ≤ (j : Int) := by omega
      obtain ⟨d, hk⟩ : ∃ k, L[j]? = some k := ⟨_, List.getElem?_eq_getElem (by rw [HN.out]; exact hjn)⟩
      have hdL : d ∈ L := List.mem_of_getElem? hk
      have hd := HM.out d hdL
      obtain ⟨b, o, rfl, _, hbl, hr⟩ := hL.at nv_length j d hk
      have a := a0.below hb
      have l := hL.below hb
      have c0 := l.nat j d hk
      have d1 : (0 : Int) ≤ (d : Int) := by omega
      have d2 : (d : Int) < 8 := by omega
      have hp := c.p_peer d hd
      obtain ⟨t1, ht1⟩ : ∃ t, matB c d = t := ⟨_, rfl⟩
      have k1 : (((c.peers d).inc : Int) == (c.want d : Int)) = t1 := by rw [← ht1, matB, Bool.eq_iff_iff, beq_iff_eq, decide_eq_true_iff]; omega
      obtain ⟨t2, ht2⟩ : ∃ t, Idn.same (c.peers d).pr c.pr = t := ⟨_, rfl⟩
      have hb3 := below_box wr (.cells (c.peers d).arr 32)
      have a3 := blk_new wr (c.peers d).arr 32
      go_upto_region 6 with (first | refine load_part rfl 32 _ rfl (o := 60 + d * 16) a rfl (c.peers d).vals hp Try.underlying32 rfl sizePe ?_ | refine alloc_zero zeroPe rfl rfl ?_ | refine store_new rfl 32 _ _ rfl (cells := (c.peers d).arr) rfl rfl sizePe rfl (Pe.arr_one _) ?_)
      try simp only [Act.put, List.setIfInBounds_toArray, List.set_cons_zero, List.set_cons_succ]
      generalize wr.alloc (Obj.cells (c.peers d).arr 32) = W3 at a3 hb3 ⊢
      replace hb := hb.trans (hb3.mono hb.size)
      replace a := a.below hb3
      replace l := l.below hb3
      clear hb3 hr hp c0
      generalize wr.heap.size = p at *
      have hC0 := hb.drew
      cases t1 with
      | false =>
        obtain rfl : R = false := by rw [← HR.out]; exact each_no c _ d (by rw [HL.out]; exact hdL) (by rw [ht1]; first | rfl | (rw [ht2]; rfl))
        have n1 : (((c.peers d).inc : Int) != (c.want d : Int)) = true := by rw [bne, k1]; rfl
        clear HR HM h0 ht1 ht2 k1 hdL hjn
        refine wp_region_held_drew (S := fun w' => Blk p (c.peers d).arr 32 w' ∧ Blk w.heap.size (coc c) 35 w' ∧ Li nv 0 (some ⟨b, o, none⟩) L w') (by kernel_rfl) ⟨a3.drew, a.drew, l.below ((Below.refl _ _).drew)⟩ (fun hHeld => ?_)
        refine tkH 0 (v := ?v88) rfl (by kernel_rfl) (fun _ _ _ h => h) (Or.inl ⟨by rfl, ?hy88⟩) hHeld ?rest88
        case hy88 => (intro w hSw; clear hSw; go_simp; try with_reducible rfl)
        try simp only [List.getElem_toArray, List.getElem_cons_succ, List.getElem_cons_zero, Act.put, List.setIfInBounds_toArray, List.set_cons_succ, List.set_cons_zero]
        refine tkH 1 (v := ?v89) rfl (by kernel_rfl) (fun _ _ _ h => h) (Or.inl ⟨by rfl, ?hy89⟩) hHeld ?rest89
        case hy89 => (intro w hSw; have hc := hSw.1.cell 0 (.int .u32 ((c.peers d).inc : Int)) rfl; clear hSw; go_simp; try with_reducible rfl)
        try simp only [List.getElem_toArray, List.getElem_cons_succ, List.getElem_cons_zero, Act.put, List.setIfInBounds_toArray, List.set_cons_succ, List.set_cons_zero]
        refine tkH 2 (v := ?v90) rfl (by kernel_rfl) (fun _ _ _ h => h) (Or.inl ⟨by rfl, ?hy90⟩) hHeld ?rest90
        case hy90 => (intro w hSw; clear hSw; go_simp; try with_reducible rfl)
        try simp only [List.getElem_toArray, List.getElem_cons_succ, List.getElem_cons_zero, Act.put, List.setIfInBounds_toArray, List.set_cons_succ, List.set_cons_zero]
        refine tkH 3 (v := ?v91) rfl (by kernel_rfl) (fun _ _ _ h => h) (Or.inl ⟨by rfl, ?hy91⟩) hHeld ?rest91
        case hy91 => (intro w hSw; clear hSw; go_simp; try with_reducible rfl)
        try simp only [List.getElem_toArray, List.getElem_cons_succ, List.getElem_cons_zero, Act.put, List.setIfInBounds_toArray, List.set_cons_succ, List.set_cons_zero]
        refine tkH 4 (v := ?v92) rfl (by kernel_rfl) (fun _ _ _ h => h) (Or.inl ⟨by rfl, ?hy92⟩) hHeld ?rest92
        case hy92 => (intro w hSw; clear hSw; go_simp; try with_reducible rfl)
        try simp only [List.getElem_toArray, List.getElem_cons_succ, List.getElem_cons_zero, Act.put, List.setIfInBounds_toArray, List.set_cons_succ, List.set_cons_zero]
        refine tkH 5 (v := ?v93) rfl (by kernel_rfl) (fun _ _ _ h => h) (Or.inl ⟨by rfl, ?hy93⟩) hHeld ?rest93
        case hy93 => (intro w hSw; have hc := hSw.2.2.nat j d hk; clear hSw; go_simp; try with_reducible rfl)
        try simp only [List.getElem_toArray, List.getElem_cons_succ, List.getElem_cons_zero, Act.put, List.setIfInBounds_toArray, List.set_cons_succ, List.set_cons_zero]
        refine tkH 6 (v := ?v94) rfl (by kernel_rfl) (fun _ _ _ h => h) (Or.inl ⟨by rfl, ?hy94⟩) hHeld ?rest94
        case hy94 => (intro w hSw; clear hSw; go_simp; try with_reducible rfl)
        try simp only [List.getElem_toArray, List.getElem_cons_succ, List.getElem_cons_zero, Act.put, List.setIfInBounds_toArray, List.set_cons_succ, List.set_cons_zero]
        refine tkH 7 (v := ?v95) rfl (by kernel_rfl) (fun _ _ _ h => h) (Or.inl ⟨by rfl, ?hy95⟩) hHeld ?rest95
        case hy95 => (intro w hSw; clear hSw; go_simp; try with_reducible rfl)
        try simp only [List.getElem_toArray, List.getElem_cons_succ, List.getElem_cons_zero, Act.put, List.setIfInBounds_toArray, List.set_cons_succ, List.set_cons_zero]
        refine tkH 8 (v := ?v96) rfl (by kernel_rfl) (fun _ _ _ h => h) (Or.inl ⟨by rfl, ?hy96⟩) hHeld ?rest96
        case hy96 => (intro w hSw; have hc := hSw.2.1.cell (43 + d) _ (c.get_want d hd); clear hSw; go_simp; try with_reducible rfl)
        try simp only [List.getElem_toArray, List.getElem_cons_succ, List.getElem_cons_zero, Act.put, List.setIfInBounds_toArray, List.set_cons_succ, List.set_cons_zero]
        refine tkH 9 (v := ?v97) rfl (by kernel_rfl) (fun _ _ _ h => h) (Or.inl ⟨by rfl, ?hy97⟩) hHeld ?rest97
        case hy97 => (intro w hSw; clear hSw; go_simp; try with_reducible rfl)
        try simp only [List.getElem_toArray, List.getElem_cons_succ, List.getElem_cons_zero, Act.put, List.setIfInBounds_toArray, List.set_cons_succ, List.set_cons_zero]
        refine tkH 10 (v := ?v98) rfl (by kernel_rfl) (fun _ _ _ h => h) (Or.inl ⟨by rfl, ?hy98⟩) hHeld ?rest98
        case hy98 => (intro w hSw; clear hSw; go_simp; try with_reducible rfl)
        try simp only [List.getElem_toArray, List.getElem_cons_succ, List.getElem_cons_zero, Act.put, List.setIfInBounds_toArray, List.set_cons_succ, List.set_cons_zero]
        refine tkH 11 (v := undef) rfl (by kernel_rfl) (fun _ _ _ h => h) (Or.inr ⟨by rfl, rfl⟩) hHeld ?rest99
        try simp only [List.getElem_toArray, List.getElem_cons_succ, List.getElem_cons_zero, Act.put, List.setIfInBounds_toArray, List.set_cons_succ, List.set_cons_zero]
        refine tkH 12 (v := undef) rfl (by kernel_rfl) (fun _ _ _ h => h) (Or.inr ⟨by rfl, rfl⟩) hHeld ?rest100
        try simp only [List.getElem_toArray, List.getElem_cons_succ, List.getElem_cons_zero, Act.put, List.setIfInBounds_toArray, List.set_cons_succ, List.set_cons_zero]
        refine tkH 13 (v := undef) rfl (by kernel_rfl) (fun _ _ _ h => h) (Or.inr ⟨by rfl, rfl⟩) hHeld ?rest101
        try simp only [List.getElem_toArray, List.getElem_cons_succ, List.getElem_cons_zero, Act.put, List.setIfInBounds_toArray, List.set_cons_succ, List.set_cons_zero]
        refine tkH 14 (v := undef) rfl (by kernel_rfl) (fun _ _ _ h => h) (Or.inr ⟨by rfl, rfl⟩) hHeld ?rest102
        try simp only [List.getElem_toArray, List.getElem_cons_succ, List.getElem_cons_zero, Act.put, List.setIfInBounds_toArray, List.set_cons_succ, List.set_cons_zero]
        refine tkH 15 (v := undef) rfl (by kernel_rfl) (fun _ _ _ h => h) (Or.inr ⟨by rfl, rfl⟩) hHeld ?rest103
        try simp only [List.getElem_toArray, List.getElem_cons_succ, List.getElem_cons_zero, Act.put, List.setIfInBounds_toArray, List.set_cons_succ, List.set_cons_zero]
        refine tkH 16 (v := ?v104) rfl (by kernel_rfl) (fun _ _ _ h => h) (Or.inl ⟨by rfl, ?hy104⟩) hHeld ?rest104
        case hy104 => (intro w hSw; clear hSw; go_simp; try with_reducible rfl)
        try simp only [List.getElem_toArray, List.getElem_cons_succ, List.getElem_cons_zero, Act.put, List.setIfInBounds_toArray, List.set_cons_succ, List.set_cons_zero]
        refine wpAnyH_done (by kernel_rfl) ?_ _
        have hBr : Below w.heap.size w _ := hB.trans (hC0.mono hB.size)
        clear hHeld
        go_wp2_with fail
        go_ret
        exact ⟨rfl, hBr⟩
      | true =>
        have n1 : (((c.peers d).inc : Int) != (c.want d : Int)) = false := by rw [bne, k1]; rfl
        cases t2 with
        | false =>
          have n2 : ∀ w, (binOp .neq 27 (.agg (c.peers d).pr.vals.toArray) (.agg c.pr.vals.toArray)).run Try.prog w = .ok (.bool true) w := neqIdn _ _ false ht2
          obtain rfl : R = false := by rw [← HR.out]; exact each_no c _ d (by rw [HL.out]; exact hdL) (by rw [ht1]; first | rfl | (rw [ht2]; rfl))
          clear HR HM h0 ht1 ht2 k1 hdL hjn
          refine wp_region_held_drew (S := fun w' => Blk p (c.peers d).arr 32 w' ∧ Blk w.heap.size (coc c) 35 w' ∧ Li nv 0 (some ⟨b, o, none⟩) L w') (by kernel_rfl) ⟨a3.drew, a.drew, l.below ((Below.refl _ _).drew)⟩ (fun hHeld => ?_)
          refine tkH 0 (v := ?v105) rfl (by kernel_rfl) (fun _ _ _ h => h) (Or.inl ⟨by rfl, ?hy105⟩) hHeld ?rest105
          case hy105 => (intro w hSw; clear hSw; go_simp; try with_reducible rfl)
          try simp only [List.getElem_toArray, List.getElem_cons_succ, List.getElem_cons_zero, Act.put, List.setIfInBounds_toArray, List.set_cons_succ, List.set_cons_zero]
          refine tkH 1 (v := ?v106) rfl (by kernel_rfl) (fun _ _ _ h => h) (Or.inl ⟨by rfl, ?hy106⟩) hHeld ?rest106
          case hy106 => (intro w hSw; have hc := hSw.1.cell 0 (.int .u32 ((c.peers d).inc : Int)) rfl; clear hSw; go_simp; try with_reducible rfl)
          try simp only [List.getElem_toArray, List.getElem_cons_succ, List.getElem_cons_zero, Act.put, List.setIfInBounds_toArray, List.set_cons_succ, List.set_cons_zero]
          refine tkH 2 (v := ?v107) rfl (by kernel_rfl) (fun _ _ _ h => h) (Or.inl ⟨by rfl, ?hy107⟩) hHeld ?rest107
          case hy107 => (intro w hSw; clear hSw; go_simp; try with_reducible rfl)
          try simp only [List.getElem_toArray, List.getElem_cons_succ, List.getElem_cons_zero, Act.put, List.setIfInBounds_toArray, List.set_cons_succ, List.set_cons_zero]
          refine tkH 3 (v := ?v108) rfl (by kernel_rfl) (fun _ _ _ h => h) (Or.inl ⟨by rfl, ?hy108⟩) hHeld ?rest108
          case hy108 => (intro w hSw; clear hSw; go_simp; try with_reducible rfl)
          try simp only [List.getElem_toArray, List.getElem_cons_succ, List.getElem_cons_zero, Act.put, List.setIfInBounds_toArray, List.set_cons_succ, List.set_cons_zero]
          refine tkH 4 (v := ?v109) rfl (by kernel_rfl) (fun _ _ _ h => h) (Or.inl ⟨by rfl, ?hy109⟩) hHeld ?rest109
          case hy109 => (intro w hSw; clear hSw; go_simp; try with_reducible rfl)
          try simp only [List.getElem_toArray, List.getElem_cons_succ, List.getElem_cons_zero, Act.put, List.setIfInBounds_toArray, List.set_cons_succ, List.set_cons_zero]
          refine tkH 5 (v := ?v110) rfl (by kernel_rfl) (fun _ _ _ h => h) (Or.inl ⟨by rfl, ?hy110⟩) hHeld ?rest110
          case hy110 => (intro w hSw; have hc := hSw.2.2.nat j d hk; clear hSw; go_simp; try with_reducible rfl)
          try simp only [List.getElem_toArray, List.getElem_cons_succ, List.getElem_cons_zero, Act.put, List.setIfInBounds_toArray, List.set_cons_succ, List.set_cons_zero]
          refine tkH 6 (v := ?v111) rfl (by kernel_rfl) (fun _ _ _ h => h) (Or.inl ⟨by rfl, ?hy111⟩) hHeld ?rest111
          case hy111 => (intro w hSw; clear hSw; go_simp; try with_reducible rfl)
          try simp only [List.getElem_toArray, List.getElem_cons_succ, List.getElem_cons_zero, Act.put, List.setIfInBounds_toArray, List.set_cons_succ, List.set_cons_zero]
          refine tkH 7 (v := ?v112) rfl (by kernel_rfl) (fun _ _ _ h => h) (Or.inl ⟨by rfl, ?hy112⟩) hHeld ?rest112
          case hy112 => (intro w hSw; clear hSw; go_simp; try with_reducible rfl)
          try simp only [List.getElem_toArray, List.getElem_cons_succ, List.getElem_cons_zero, Act.put, List.setIfInBounds_toArray, List.set_cons_succ, List.set_cons_zero]
          refine tkH 8 (v := ?v113) rfl (by kernel_rfl) (fun _ _ _ h => h) (Or.inl ⟨by rfl, ?hy113⟩) hHeld ?rest113
          case hy113 => (intro w hSw; have hc := hSw.2.1.cell (43 + d) _ (c.get_want d hd); clear hSw; go_simp; try with_reducible rfl)
          try simp only [List.getElem_toArray, List.getElem_cons_succ, List.getElem_cons_zero, Act.put, List.setIfInBounds_toArray, List.set_cons_succ, List.set_cons_zero]
          refine tkH 9 (v := ?v114) rfl (by kernel_rfl) (fun _ _ _ h => h) (Or.inl ⟨by rfl, ?hy114⟩) hHeld ?rest114
          case hy114 => (intro w hSw; clear hSw; go_simp; try with_reducible rfl)
          try simp only [List.getElem_toArray, List.getElem_cons_succ, List.getElem_cons_zero, Act.put, List.setIfInBounds_toArray, List.set_cons_succ, List.set_cons_zero]
          refine tkH 10 (v := ?v115) rfl (by kernel_rfl) (fun _ _ _ h => h) (Or.inl ⟨by rfl, ?hy115⟩) hHeld ?rest115
          case hy115 => (intro w hSw; clear hSw; go_simp; try with_reducible rfl)
          try simp only [List.getElem_toArray, List.getElem_cons_succ, List.getElem_cons_zero, Act.put, List.setIfInBounds_toArray, List.set_cons_succ, List.set_cons_zero]
          refine tkH 11 (v := ?v116) rfl (by kernel_rfl) (fun _ _ _ h => h) (Or.inl ⟨by rfl, ?hy116⟩) hHeld ?rest116
          case hy116 => (intro w hSw; clear hSw; go_simp; try with_reducible rfl)
          try simp only [List.getElem_toArray, List.getElem_cons_succ, List.getElem_cons_zero, Act.put, List.setIfInBounds_toArray, List.set_cons_succ, List.set_cons_zero]
          refine' tkH 12 (v := _) rfl (by kernel_rfl) (fun _ _ _ h => h) (yieldsIf_load_mid (by rfl) _ _ rfl p 4 rfl (c.peers d).pr.vals _ ?hS117 Try.underlying27 rfl sizeIdn) hHeld ?rest117
          case hS117 => exact fun w h => h.1.range 4 _ (c.peers d).p_pr
          try simp only [List.getElem_toArray, List.getElem_cons_succ, List.getElem_cons_zero, Act.put, List.setIfInBounds_toArray, List.set_cons_succ, List.set_cons_zero]
          refine tkH 13 (v := ?v118) rfl (by kernel_rfl) (fun _ _ _ h => h) (Or.inl ⟨by rfl, ?hy118⟩) hHeld ?rest118
          case hy118 => (intro w hSw; clear hSw; go_simp; try with_reducible rfl)
          try simp only [List.getElem_toArray, List.getElem_cons_succ, List.getElem_cons_zero, Act.put, List.setIfInBounds_toArray, List.set_cons_succ, List.set_cons_zero]
          refine' tkH 14 (v := _) rfl (by kernel_rfl) (fun _ _ _ h => h) (yieldsIf_load_mid (by rfl) _ _ rfl w.heap.size 40 rfl c.pr.vals _ ?hS119 Try.underlying27 rfl sizeIdn) hHeld ?rest119
          case hS119 => exact fun w h => h.2.1.range 40 _ c.p_pr
          try simp only [List.getElem_toArray, List.getElem_cons_succ, List.getElem_cons_zero, Act.put, List.setIfInBounds_toArray, List.set_cons_succ, List.set_cons_zero]
          refine tkH 15 (v := ?v120) rfl (by kernel_rfl) (fun _ _ _ h => h) (Or.inl ⟨by rfl, ?hy120⟩) hHeld ?rest120
          case hy120 => (intro w hSw; clear hSw; go_simp; try with_reducible rfl)
          try simp only [List.getElem_toArray, List.getElem_cons_succ, List.getElem_cons_zero, Act.put, List.setIfInBounds_toArray, List.set_cons_succ, List.set_cons_zero]
          refine tkH 16 (v := ?v121) rfl (by kernel_rfl) (fun _ _ _ h => h) (Or.inl ⟨by rfl, ?hy121⟩) hHeld ?rest121
          case hy121 => (intro w hSw; clear hSw; go_simp; try with_reducible rfl)
          try simp only [List.getElem_toArray, List.getElem_cons_succ, List.getElem_cons_zero, Act.put, List.setIfInBounds_toArray, List.set_cons_succ, List.set_cons_zero]
          refine wpAnyH_done (by kernel_rfl) ?_ _
          have hBr : Below w.heap.size w _ := hB.trans (hC0.mono hB.size)
          clear hHeld
          go_wp2_with fail
          go_ret
          exact ⟨rfl, hBr⟩
        | true =>
          have n2 : ∀ w, (binOp .neq 27 (.agg (c.peers d).pr.vals.toArray) (.agg c.pr.vals.toArray)).run Try.prog w = .ok (.bool false) w := neqIdn _ _ true ht2
          have HS : Hid (∀ d ∈ L.take (j + 1), (matB c d && Idn.same (c.peers d).pr c.pr) = true) := by
            intro e he
            rw [List.take_add_one, hk] at he
            rcases List.mem_append.1 he with he | he
            · exact h0.out e he
            · simp at he
              rw [he, ht1, ht2]; rfl
          clear h0 ht1 ht2 k1 hdL
          refine wp_region_held_drew (S := fun w' => Blk p (c.peers d).arr 32 w' ∧ Blk w.heap.size (coc c) 35 w' ∧ Li nv 0 (some ⟨b, o, none⟩) L w') (by kernel_rfl) ⟨a3.drew, a.drew, l.below ((Below.refl _ _).drew)⟩ (fun hHeld => ?_)
          refine tkH 0 (v := ?v122) rfl (by kernel_rfl) (fun _ _ _ h => h) (Or.inl ⟨by rfl, ?hy122⟩) hHeld ?rest122
          case hy122 => (intro w hSw; clear hSw; go_simp; try with_reducible rfl)
          try simp only [List.getElem_toArray, List.getElem_cons_succ, List.getElem_cons_zero, Act.put, List.setIfInBounds_toArray, List.set_cons_succ, List.set_cons_zero]
          refine tkH 1 (v := ?v123) rfl (by kernel_rfl) (fun _ _ _ h => h) (Or.inl ⟨by rfl, ?hy123⟩) hHeld ?rest123
          case hy123 => (intro w hSw; have hc := hSw.1.cell 0 (.int .u32 ((c.peers d).inc : Int)) rfl; clear hSw; go_simp; try with_reducible rfl)
          try simp only [List.getElem_toArray, List.getElem_cons_succ, List.getElem_cons_zero, Act.put, List.setIfInBounds_toArray, List.set_cons_succ, List.set_cons_zero]
          refine tkH 2 (v := ?v124) rfl (by kernel_rfl) (fun _ _ _ h => h) (Or.inl ⟨by rfl, ?hy124⟩) hHeld ?rest124
          case hy124 => (intro w hSw; clear hSw; go_simp; try with_reducible rfl)
          try simp only [List.getElem_toArray, List.getElem_cons_succ, List.getElem_cons_zero, Act.put, List.setIfInBounds_toArray, List.set_cons_succ, List.set_cons_zero]
          refine tkH 3 (v := ?v125) rfl (by kernel_rfl) (fun _ _ _ h => h) (Or.inl ⟨by rfl, ?hy125⟩) hHeld ?rest125
          case hy125 => (intro w hSw; clear hSw; go_simp; try with_reducible rfl)
          try simp only [List.getElem_toArray, List.getElem_cons_succ, List.getElem_cons_zero, Act.put, List.setIfInBounds_toArray, List.set_cons_succ, List.set_cons_zero]
          refine tkH 4 (v := ?v126) rfl (by kernel_rfl) (fun _ _ _ h => h) (Or.inl ⟨by rfl, ?hy126⟩) hHeld ?rest126
          case hy126 => (intro w hSw; clear hSw; go_simp; try with_reducible rfl)
          try simp only [List.getElem_toArray, List.getElem_cons_succ, List.getElem_cons_zero, Act.put, List.setIfInBounds_toArray, List.set_cons_succ, List.set_cons_zero]
          refine tkH 5 (v := ?v127) rfl (by kernel_rfl) (fun _ _ _ h => h) (Or.inl ⟨by rfl, ?hy127⟩) hHeld ?rest127
          case hy127 => (intro w hSw; have hc := hSw.2.2.nat j d hk; clear hSw; go_simp; try with_reducible rfl)
          try simp only [List.getElem_toArray, List.getElem_cons_succ, List.getElem_cons_zero, Act.put, List.setIfInBounds_toArray, List.set_cons_succ, List.set_cons_zero]
          refine tkH 6 (v := ?v128) rfl (by kernel_rfl) (fun _ _ _ h => h) (Or.inl ⟨by rfl, ?hy128⟩) hHeld ?rest128
          case hy128 => (intro w hSw; clear hSw; go_simp; try with_reducible rfl)
          try simp only [List.getElem_toArray, List.getElem_cons_succ, List.getElem_cons_zero, Act.put, List.setIfInBounds_toArray, List.set_cons_succ, List.set_cons_zero]
          refine tkH 7 (v := ?v129) rfl (by kernel_rfl) (fun _ _ _ h => h) (Or.inl ⟨by rfl, ?hy129⟩) hHeld ?rest129
          case hy129 => (intro w hSw; clear hSw; go_simp; try with_reducible rfl)
          try simp only [List.getElem_toArray, List.getElem_cons_succ, List.getElem_cons_zero, Act.put, List.setIfInBounds_toArray, List.set_cons_succ, List.set_cons_zero]
          refine tkH 8 (v := ?v130) rfl (by kernel_rfl) (fun _ _ _ h => h) (Or.inl ⟨by rfl, ?hy130⟩) hHeld ?rest130
          case hy130 => (intro w hSw; have hc := hSw.2.1.cell (43 + d) _ (c.get_want d hd); clear hSw; go_simp; try with_reducible rfl)
          try simp only [List.getElem_toArray, List.getElem_cons_succ, List.getElem_cons_zero, Act.put, List.setIfInBounds_toArray, List.set_cons_succ, List.set_cons_zero]
          refine tkH 9 (v := ?v131) rfl (by kernel_rfl) (fun _ _ _ h => h) (Or.inl ⟨by rfl, ?hy131⟩) hHeld ?rest131
          case hy131 => (intro w hSw; clear hSw; go_simp; try with_reducible rfl)
          try simp only [List.getElem_toArray, List.getElem_cons_succ, List.getElem_cons_zero, Act.put, List.setIfInBounds_toArray, List.set_cons_succ, List.set_cons_zero]
          refine tkH 10 (v := ?v132) rfl (by kernel_rfl) (fun _ _ _ h => h) (Or.inl ⟨by rfl, ?hy132⟩) hHeld ?rest132
          case hy132 => (intro w hSw; clear hSw; go_simp; try with_reducible rfl)
          try simp only [List.getElem_toArray, List.getElem_cons_succ, List.getElem_cons_zero, Act.put, List.setIfInBounds_toArray, List.set_cons_succ, List.set_cons_zero]
          refine tkH 11 (v := ?v133) rfl (by kernel_rfl) (fun _ _ _ h => h) (Or.inl ⟨by rfl, ?hy133⟩) hHeld ?rest133
          case hy133 => (intro w hSw; clear hSw; go_simp; try with_reducible rfl)
          try simp only [List.getElem_toArray, List.getElem_cons_succ, List.getElem_cons_zero, Act.put, List.setIfInBounds_toArray, List.set_cons_succ, List.set_cons_zero]
          refine' tkH 12 (v := _) rfl (by kernel_rfl) (fun _ _ _ h => h) (yieldsIf_load_mid (by rfl) _ _ rfl p 4 rfl (c.peers d).pr.vals _ ?hS134 Try.underlying27 rfl sizeIdn) hHeld ?rest134
          case hS134 => exact fun w h => h.1.range 4 _ (c.peers d).p_pr
          try simp only [List.getElem_toArray, List.getElem_cons_succ, List.getElem_cons_zero, Act.put, List.setIfInBounds_toArray, List.set_cons_succ, List.set_cons_zero]
          refine tkH 13 (v := ?v135) rfl (by kernel_rfl) (fun _ _ _ h => h) (Or.inl ⟨by rfl, ?hy135⟩) hHeld ?rest135
          case hy135 => (intro w hSw; clear hSw; go_simp; try with_reducible rfl)
          try simp only [List.getElem_toArray, List.getElem_cons_succ, List.getElem_cons_zero, Act.put, List.setIfInBounds_toArray, List.set_cons_succ, List.set_cons_zero]
          refine' tkH 14 (v := _) rfl (by kernel_rfl) (fun _ _ _ h => h) (yieldsIf_load_mid (by rfl) _ _ rfl w.heap.size 40 rfl c.pr.vals _ ?hS136 Try.underlying27 rfl sizeIdn) hHeld ?rest136
          case hS136 => exact fun w h => h.2.1.range 40 _ c.p_pr
          try simp only [List.getElem_toArray, List.getElem_cons_succ, List.getElem_cons_zero, Act.put, List.setIfInBounds_toArray, List.set_cons_succ, List.set_cons_zero]
          refine tkH 15 (v := ?v137) rfl (by kernel_rfl) (fun _ _ _ h => h) (Or.inl ⟨by rfl, ?hy137⟩) hHeld ?rest137
          case hy137 => (intro w hSw; clear hSw; go_simp; try with_reducible rfl)
          try simp only [List.getElem_toArray, List.getElem_cons_succ, List.getElem_cons_zero, Act.put, List.setIfInBounds_toArray, List.set_cons_succ, List.set_cons_zero]
          refine tkH 16 (v := ?v138) rfl (by kernel_rfl) (fun _ _ _ h => h) (Or.inl ⟨by rfl, ?hy138⟩) hHeld ?rest138
          case hy138 => (intro w hSw; clear hSw; go_simp; try with_reducible rfl)
          try simp only [List.getElem_toArray, List.getElem_cons_succ, List.getElem_cons_zero, Act.put, List.setIfInBounds_toArray, List.set_cons_succ, List.set_cons_zero]
          refine wpAnyH_done (by kernel_rfl) ?_ _
          clear hHeld
          go_wp2_with fail
          exact ⟨⟨j + 1, by omega, by go_num, HS, hC0⟩, by simp [intOf]; omega⟩
    · obtain rfl : j = n := by omega
      obtain rfl : R = true := by
        rw [← HR.out]
        refine each_yes c _ (fun d hd => h0.out d ?_)
        rw [HL.out] at hd
        rw [List.take_of_length_le (by rw [HN.out]; omega)]
        exact hd
      have hBr : Below w.heap.size w wr := hB.trans (hb.mono hB.size)
      clear h0 HR
      go_wp2_with fail
      go_ret
      exact ⟨rfl, hBr⟩

set_option maxHeartbeats 4000000 in
theorem rdone_ok (c : Co) (w : World) : Calls Try.prog 74 #[.agg (coc c)] w fun e w' => e = .returned (.bool (doneB c)) ∧ Below w.heap.size w w' := by
  have a0 := blk_new w (coc c) 35
  have hB : Below w.heap.size w (w.alloc (.cells (coc c) 35)) := below_box w _
  obtain ⟨R, HR⟩ : ∃ R, Hid (doneB c = R) := ⟨_, rfl⟩
  rw [HR.out]
  go_enter Try.func74, Try.ntmps74
  go_upto_region 1 with fail
  generalize w.alloc (Obj.cells (coc c) 35) = W at a0 hB ⊢
  go_wp2_with (refine load_blk rfl 35 _ rfl a0 rfl Try.underlying35 rfl sizeCo ?_)
  refine (rothers_ok c _).mono ?_
  rintro r w1 ⟨⟨la, lc, rfl, hL⟩, hb⟩
  replace a0 := a0.below hb
  replace hB := hB.trans (hb.mono hB.size)
  clear hb 
  replace hL := hL.mono (Nat.zero_le _)
  have hn8 := oth_len c.want c.self
  obtain ⟨L, HL⟩ : ∃ L, Hid (oth c.want c.self = L) := ⟨_, rfl⟩
  have HM : Hid (∀ d ∈ L, d < 8) := fun d hd => by rw [← HL.out] at hd; exact ((mem_oth _ _ _).1 hd).1
  rw [HL.out] at hL hn8 ⊢
  obtain ⟨n, hn⟩ : ∃ n, L.length = n := ⟨_, rfl⟩
  rw [hn] at hn8 ⊢
  have HN : Hid (L.length = n) := hn
  clear hn
  go_wp2_with fail
  go_loopw [4] (fun iv wr => ∃ j : Nat, j ≤ n ∧ iv = .int .i64 j ∧ Hid (∀ d ∈ L.take j, (matB c d && doneQ c (c.peers d)) = true) ∧ Below w1.heap.size w1 wr) (fun iv _ => n - (intOf iv).toNat)
  case atStart => exact ⟨0, by omega, rfl, fun d h => by simp at h, Below.refl _ _⟩
  case round =>
    obtain ⟨j, hj, rfl, h0, hb⟩ := hrel
    by_cases hjn : j < n
    · have j0 : (j : Int) < (n : Int) := by omega
      have j1 : (0 : Int) ≤ (j : Int) := by omega
      obtain ⟨d, hk⟩ : ∃ k, L[j]? = some k := ⟨_, List.getElem?_eq_getElem (by rw [HN.out]; exact hjn)⟩
      have hdL : d ∈ L := List.mem_of_getElem? hk
      have hd := HM.out d hdL
      obtain ⟨b, o, rfl, _, hbl, hr⟩ := hL.at nv_length j d hk
      have a := a0.below hb
      have l := hL.below hb
      have c0 := l.nat j d hk
      have d1 : (0 : Int) ≤ (d : Int) := by omega
      have d2 : (d : Int) < 8 := by omega
      have hp := c.p_peer d hd
      obtain ⟨t1, ht1⟩ : ∃ t, matB c d = t := ⟨_, rfl⟩
      have k1 : (((c.peers d).inc : Int) == (c.want d : Int)) = t1 := by rw [← ht1, matB, Bool.eq_iff_iff, beq_iff_eq, decide_eq_true_iff]; omega
      obtain ⟨t2, ht2⟩ : ∃ t, Idn.same (c.peers d).conf c.pr = t := ⟨_, rfl⟩
      obtain ⟨t3, ht3⟩ : ∃ t, Idn.same (c.peers d).pr c.pr = t := ⟨_, rfl⟩
      obtain ⟨t4, hr4⟩ : ∃ t, (c.peers d).rdy = t := ⟨_, rfl⟩
      have hdq : doneQ c (c.peers d) = ((t3 && t4) || t2) := by rw [doneQ, ht2, ht3, hr4]
      have hb3 := below_box wr (.cells (c.peers d).arr 32)
      have a3 := blk_new wr (c.peers d).arr 32
      go_upto_region 6 with (first | refine load_part rfl 32 _ rfl (o := 60 + d * 16) a rfl (c.peers d).vals hp Try.underlying32 rfl sizePe ?_ | refine alloc_zero zeroPe rfl rfl ?_ | refine store_new rfl 32 _ _ rfl (cells := (c.peers d).arr) rfl rfl sizePe rfl (Pe.arr_one _) ?_)
      try simp only [Act.put, List.setIfInBounds_toArray, List.set_cons_zero, List.set_cons_succ]
      generalize wr.alloc (Obj.cells (c.peers d).arr 32) = W3 at a3 hb3 ⊢
      replace hb := hb.trans (hb3.mono hb.size)
      replace a := a.below hb3
      replace l := l.below hb3
      clear hb3 hr hp c0
      generalize wr.heap.size = p at *
      have hC0 := hb.drew
      cases t1 with
      | false =>
        obtain rfl : R = false := by rw [← HR.out]; exact each_no c _ d (by rw [HL.out]; exact hdL) (by rw [ht1]; rfl)
        have n1 : (((c.peers d).inc : Int) != (c.want d : Int)) = true := by rw [bne, k1]; rfl
        clear HR HM h0 ht1 ht2 ht3 hr4 hdq k1 hdL hjn
        refine wp_region_held_drew (S := fun w' => Blk p (c.peers d).arr 32 w' ∧ Blk w.heap.size (coc c) 35 w' ∧ Li nv 0 (some ⟨b, o, none⟩) L w') (by kernel_rfl) ⟨a3.drew, a.drew, l.below ((Below.refl _ _).drew)⟩ (fun hHeld => ?_)
        refine tkH 0 (v := ?v139) rfl (by kernel_rfl) (fun _ _ _ h => h) (Or.inl ⟨by rfl, ?hy139⟩) hHeld ?rest139
        case hy139 => (intro w hSw; clear hSw; go_simp; try with_reducible rfl)
        try simp only [List.getElem_toArray, List.getElem_cons_succ, List.getElem_cons_zero, Act.put, List.setIfInBounds_toArray, List.set_cons_succ, List.set_cons_zero]
        refine tkH 1 (v := ?v140) rfl (by kernel_rfl) (fun _ _ _ h => h) (Or.inl ⟨by rfl, ?hy140⟩) hHeld ?rest140
        case hy140 => (intro w hSw; have hc := hSw.1.cell 0 (.int .u32 ((c.peers d).inc : Int)) rfl; clear hSw; go_simp; try with_reducible rfl)
        try simp only [List.getElem_toArray, List.getElem_cons_succ, List.getElem_cons_zero, Act.put, List.setIfInBounds_toArray, List.set_cons_succ, List.set_cons_zero]
        refine tkH 2 (v := ?v141) rfl (by kernel_rfl) (fun _ _ _ h => h) (Or.inl ⟨by rfl, ?hy141⟩) hHeld ?rest141
        case hy141 => (intro w hSw; clear hSw; go_simp; try with_reducible rfl)
        try simp only [List.getElem_toArray, List.getElem_cons_succ, List.getElem_cons_zero, Act.put, List.setIfInBounds_toArray, List.set_cons_succ, List.set_cons_zero]
        refine tkH 3 (v := ?v142) rfl (by kernel_rfl) (fun _ _ _ h => h) (Or.inl ⟨by rfl, ?hy142⟩) hHeld ?rest142
        case hy142 => (intro w hSw; clear hSw; go_simp; try with_reducible rfl)
        try simp only [List.getElem_toArray, List.getElem_cons_succ, List.getElem_cons_zero, Act.put, List.setIfInBounds_toArray, List.set_cons_succ, List.set_cons_zero]
        refine tkH 4 (v := ?v143) rfl (by kernel_rfl) (fun _ _ _ h => h) (Or.inl ⟨by rfl, ?hy143⟩) hHeld ?rest143
        case hy143 => (intro w hSw; clear hSw; go_simp; try with_reducible rfl)
        try simp only [List.getElem_toArray, List.getElem_cons_succ, List.getElem_cons_zero, Act.put, List.setIfInBounds_toArray, List.set_cons_succ, List.set_cons_zero]
        refine tkH 5 (v := ?v144) rfl (by kernel_rfl) (fun _ _ _ h => h) (Or.inl ⟨by rfl, ?hy144⟩) hHeld ?rest144
        case hy144 => (intro w hSw; have hc := hSw.2.2.nat j d hk; clear hSw; go_simp; try with_reducible rfl)
        try simp only [List.getElem_toArray, List.getElem_cons_succ, List.getElem_cons_zero, Act.put, List.setIfInBounds_toArray, List.set_cons_succ, List.set_cons_zero]
        refine tkH 6 (v := ?v145) rfl (by kernel_rfl) (fun _ _ _ h => h) (Or.inl ⟨by rfl, ?hy145⟩) hHeld ?rest145
        case hy145 => (intro w hSw; clear hSw; go_simp; try with_reducible rfl)
        try simp only [List.getElem_toArray, List.getElem_cons_succ, List.getElem_cons_zero, Act.put, List.setIfInBounds_toArray, List.set_cons_succ, List.set_cons_zero]
        refine tkH 7 (v := ?v146) rfl (by kernel_rfl) (fun _ _ _ h => h) (Or.inl ⟨by rfl, ?hy146⟩) hHeld ?rest146
        case hy146 => (intro w hSw; clear hSw; go_simp; try with_reducible rfl)
        try simp only [List.getElem_toArray, List.getElem_cons_succ, List.getElem_cons_zero, Act.put, List.setIfInBounds_toArray, List.set_cons_succ, List.set_cons_zero]
        refine tkH 8 (v := ?v147) rfl (by kernel_rfl) (fun _ _ _ h => h) (Or.inl ⟨by rfl, ?hy147⟩) hHeld ?rest147
        case hy147 => (intro w hSw; have hc := hSw.2.1.cell (43 + d) _ (c.get_want d hd); clear hSw; go_simp; try with_reducible rfl)
        try simp only [List.getElem_toArray, List.getElem_cons_succ, List.getElem_cons_zero, Act.put, List.setIfInBounds_toArray, List.set_cons_succ, List.set_cons_zero]
        refine tkH 9 (v := ?v148) rfl (by kernel_rfl) (fun _ _ _ h => h) (Or.inl ⟨by rfl, ?hy148⟩) hHeld ?rest148
        case hy148 => (intro w hSw; clear hSw; go_simp; try with_reducible rfl)
        try simp only [List.getElem_toArray, List.getElem_cons_succ, List.getElem_cons_zero, Act.put, List.setIfInBounds_toArray, List.set_cons_succ, List.set_cons_zero]
        refine wpAnyH_done (by kernel_rfl) ?_ _
        have hBr : Below w.heap.size w _ := hB.trans (hC0.mono hB.size)
        clear hHeld
        go_wp2_with fail
        go_ret
        exact ⟨rfl, hBr⟩
      | true =>
        have n1 : (((c.peers d).inc : Int) != (c.want d : Int)) = false := by rw [bne, k1]; rfl
        clear k1
        refine wp_region_held_drew (S := fun w' => Blk p (c.peers d).arr 32 w' ∧ Blk w.heap.size (coc c) 35 w' ∧ Li nv 0 (some ⟨b, o, none⟩) L w') (by kernel_rfl) ⟨a3.drew, a.drew, l.below ((Below.refl _ _).drew)⟩ (fun hHeld => ?_)
        refine tkH 0 (v := ?v149) rfl (by kernel_rfl) (fun _ _ _ h => h) (Or.inl ⟨by rfl, ?hy149⟩) hHeld ?rest149
        case hy149 => (intro w hSw; clear hSw; go_simp; try with_reducible rfl)
        try simp only [List.getElem_toArray, List.getElem_cons_succ, List.getElem_cons_zero, Act.put, List.setIfInBounds_toArray, List.set_cons_succ, List.set_cons_zero]
        refine tkH 1 (v := ?v150) rfl (by kernel_rfl) (fun _ _ _ h => h) (Or.inl ⟨by rfl, ?hy150⟩) hHeld ?rest150
        case hy150 => (intro w hSw; have hc := hSw.1.cell 0 (.int .u32 ((c.peers d).inc : Int)) rfl; clear hSw; go_simp; try with_reducible rfl)
        try simp only [List.getElem_toArray, List.getElem_cons_succ, List.getElem_cons_zero, Act.put, List.setIfInBounds_toArray, List.set_cons_succ, List.set_cons_zero]
        refine tkH 2 (v := ?v151) rfl (by kernel_rfl) (fun _ _ _ h => h) (Or.inl ⟨by rfl, ?hy151⟩) hHeld ?rest151
        case hy151 => (intro w hSw; clear hSw; go_simp; try with_reducible rfl)
        try simp only [List.getElem_toArray, List.getElem_cons_succ, List.getElem_cons_zero, Act.put, List.setIfInBounds_toArray, List.set_cons_succ, List.set_cons_zero]
        refine tkH 3 (v := ?v152) rfl (by kernel_rfl) (fun _ _ _ h => h) (Or.inl ⟨by rfl, ?hy152⟩) hHeld ?rest152
        case hy152 => (intro w hSw; clear hSw; go_simp; try with_reducible rfl)
        try simp only [List.getElem_toArray, List.getElem_cons_succ, List.getElem_cons_zero, Act.put, List.setIfInBounds_toArray, List.set_cons_succ, List.set_cons_zero]
        refine tkH 4 (v := ?v153) rfl (by kernel_rfl) (fun _ _ _ h => h) (Or.inl ⟨by rfl, ?hy153⟩) hHeld ?rest153
        case hy153 => (intro w hSw; clear hSw; go_simp; try with_reducible rfl)
        try simp only [List.getElem_toArray, List.getElem_cons_succ, List.getElem_cons_zero, Act.put, List.setIfInBounds_toArray, List.set_cons_succ, List.set_cons_zero]
        refine tkH 5 (v := ?v154) rfl (by kernel_rfl) (fun _ _ _ h => h) (Or.inl ⟨by rfl, ?hy154⟩) hHeld ?rest154
        case hy154 => (intro w hSw; have hc := hSw.2.2.nat j d hk; clear hSw; go_simp; try with_reducible rfl)
        try simp only [List.getElem_toArray, List.getElem_cons_succ, List.getElem_cons_zero, Act.put, List.setIfInBounds_toArray, List.set_cons_succ, List.set_cons_zero]
        refine tkH 6 (v := ?v155) rfl (by kernel_rfl) (fun _ _ _ h => h) (Or.inl ⟨by rfl, ?hy155⟩) hHeld ?rest155
        case hy155 => (intro w hSw; clear hSw; go_simp; try with_reducible rfl)
        try simp only [List.getElem_toArray, List.getElem_cons_succ, List.getElem_cons_zero, Act.put, List.setIfInBounds_toArray, List.set_cons_succ, List.set_cons_zero]
        refine tkH 7 (v := ?v156) rfl (by kernel_rfl) (fun _ _ _ h => h) (Or.inl ⟨by rfl, ?hy156⟩) hHeld ?rest156
        case hy156 => (intro w hSw; clear hSw; go_simp; try with_reducible rfl)
        try simp only [List.getElem_toArray, List.getElem_cons_succ, List.getElem_cons_zero, Act.put, List.setIfInBounds_toArray, List.set_cons_succ, List.set_cons_zero]
        refine tkH 8 (v := ?v157) rfl (by kernel_rfl) (fun _ _ _ h => h) (Or.inl ⟨by rfl, ?hy157⟩) hHeld ?rest157
        case hy157 => (intro w hSw; have hc := hSw.2.1.cell (43 + d) _ (c.get_want d hd); clear hSw; go_simp; try with_reducible rfl)
        try simp only [List.getElem_toArray, List.getElem_cons_succ, List.getElem_cons_zero, Act.put, List.setIfInBounds_toArray, List.set_cons_succ, List.set_cons_zero]
        refine tkH 9 (v := ?v158) rfl (by kernel_rfl) (fun _ _ _ h => h) (Or.inl ⟨by rfl, ?hy158⟩) hHeld ?rest158
        case hy158 => (intro w hSw; clear hSw; go_simp; try with_reducible rfl)
        try simp only [List.getElem_toArray, List.getElem_cons_succ, List.getElem_cons_zero, Act.put, List.setIfInBounds_toArray, List.set_cons_succ, List.set_cons_zero]
        refine wpAnyH_done (by kernel_rfl) ?_ _
        have hb := hC0
        have a3 := hHeld.1
        have a := hHeld.2.1
        clear hHeld hC0 l n1
        go_upto_region 8 with fail
        generalize W3.drew = wd at *
        have c5 := a3.cell 15 (.bool (c.peers d).rdy) rfl
        rw [hr4] at c5
        clear hr4
        cases t2 with
        | true =>
          have n2 : ∀ w, (binOp .neq 27 (.agg (c.peers d).conf.vals.toArray) (.agg c.pr.vals.toArray)).run Try.prog w = .ok (.bool false) w := neqIdn _ _ true ht2
          have hq : doneQ c (c.peers d) = true := by rw [hdq]; simp
          have HS : Hid (∀ d ∈ L.take (j + 1), (matB c d && doneQ c (c.peers d)) = true) := by
            intro e he
            rw [List.take_add_one, hk] at he
            rcases List.mem_append.1 he with he | he
            · exact h0.out e he
            · simp at he
              rw [he, ht1, hq]; rfl
          clear h0 ht1 ht2 ht3 hdq hq HR hdL
          go_wp2_with (first | (with_reducible refine skip_not' ?_ ?_; (focus (simp [Region.wanted, yielded]; done)); try simp only [Act.put, List.setIfInBounds_toArray, List.set_cons_zero, List.set_cons_succ]) | refine load_part rfl 27 _ rfl (o := 1) a3 rfl (c.peers d).conf.vals (c.peers d).p_conf Try.underlying27 rfl sizeIdn ?_ | refine load_part rfl 27 _ rfl (o := 40) a rfl c.pr.vals c.p_pr Try.underlying27 rfl sizeIdn ?_)
          exact ⟨⟨j + 1, by omega, by go_num, HS, hb⟩, by simp [intOf]; omega⟩
        | false =>
          have n2 : ∀ w, (binOp .neq 27 (.agg (c.peers d).conf.vals.toArray) (.agg c.pr.vals.toArray)).run Try.prog w = .ok (.bool true) w := neqIdn _ _ false ht2
          cases t3 with
          | false =>
            have n3 : ∀ w, (binOp .neq 27 (.agg (c.peers d).pr.vals.toArray) (.agg c.pr.vals.toArray)).run Try.prog w = .ok (.bool true) w := neqIdn _ _ false ht3
            have hq : doneQ c (c.peers d) = false := by rw [hdq]; rfl
            obtain rfl : R = false := by rw [← HR.out]; exact each_no c _ d (by rw [HL.out]; exact hdL) (by rw [ht1, hq]; rfl)
            have hBr := hB.trans (hb.mono hB.size)
            clear h0 ht1 ht2 ht3 hdq hq HR HM hdL hjn
            go_wp2_with (first | (with_reducible refine skip_not' ?_ ?_; (focus (simp [Region.wanted, yielded]; done)); try simp only [Act.put, List.setIfInBounds_toArray, List.set_cons_zero, List.set_cons_succ]) | refine load_part rfl 27 _ rfl (o := 1) a3 rfl (c.peers d).conf.vals (c.peers d).p_conf Try.underlying27 rfl sizeIdn ?_ | refine load_part rfl 27 _ rfl (o := 40) a rfl c.pr.vals c.p_pr Try.underlying27 rfl sizeIdn ?_ | refine load_wpart rfl 27 _ rfl (o := 4) a3 rfl (c.peers d).pr.vals (c.peers d).p_pr Try.underlying27 rfl sizeIdn ?_ | refine load_wpart rfl 27 _ rfl (o := 40) a rfl c.pr.vals c.p_pr Try.underlying27 rfl sizeIdn ?_)
            go_ret
            exact ⟨rfl, hBr⟩
          | true =>
            have n3 : ∀ w, (binOp .neq 27 (.agg (c.peers d).pr.vals.toArray) (.agg c.pr.vals.toArray)).run Try.prog w = .ok (.bool false) w := neqIdn _ _ true ht3
            cases t4 with
            | false =>
              have hq : doneQ c (c.peers d) = false := by rw [hdq]; rfl
              obtain rfl : R = false := by rw [← HR.out]; exact each_no c _ d (by rw [HL.out]; exact hdL) (by rw [ht1, hq]; rfl)
              have hBr := hB.trans (hb.mono hB.size)
              clear h0 ht1 ht2 ht3 hdq hq HR HM hdL hjn
              go_wp2_with (first | (with_reducible refine skip_not' ?_ ?_; (focus (simp [Region.wanted, yielded]; done)); try simp only [Act.put, List.setIfInBounds_toArray, List.set_cons_zero, List.set_cons_succ]) | refine load_part rfl 27 _ rfl (o := 1) a3 rfl (c.peers d).conf.vals (c.peers d).p_conf Try.underlying27 rfl sizeIdn ?_ | refine load_part rfl 27 _ rfl (o := 40) a rfl c.pr.vals c.p_pr Try.underlying27 rfl sizeIdn ?_ | refine load_wpart rfl 27 _ rfl (o := 4) a3 rfl (c.peers d).pr.vals (c.peers d).p_pr Try.underlying27 rfl sizeIdn ?_ | refine load_wpart rfl 27 _ rfl (o := 40) a rfl c.pr.vals c.p_pr Try.underlying27 rfl sizeIdn ?_)
              go_ret
              exact ⟨rfl, hBr⟩
            | true =>
              have hq : doneQ c (c.peers d) = true := by rw [hdq]; rfl
              have HS : Hid (∀ d ∈ L.take (j + 1), (matB c d && doneQ c (c.peers d)) = true) := by
                intro e he
                rw [List.take_add_one, hk] at he
                rcases List.mem_append.1 he with he | he
                · exact h0.out e he
                · simp at he
                  rw [he, ht1, hq]; rfl
              clear h0 ht1 ht2 ht3 hdq hq HR hdL
              go_wp2_with (first | (with_reducible refine skip_not' ?_ ?_; (focus (simp [Region.wanted, yielded]; done)); try simp only [Act.put, List.setIfInBounds_toArray, List.set_cons_zero, List.set_cons_succ]) | refine load_part rfl 27 _ rfl (o := 1) a3 rfl (c.peers d).conf.vals (c.peers d).p_conf Try.underlying27 rfl sizeIdn ?_ | refine load_part rfl 27 _ rfl (o := 40) a rfl c.pr.vals c.p_pr Try.underlying27 rfl sizeIdn ?_ | refine load_wpart rfl 27 _ rfl (o := 4) a3 rfl (c.peers d).pr.vals (c.peers d).p_pr Try.underlying27 rfl sizeIdn ?_ | refine load_wpart rfl 27 _ rfl (o := 40) a rfl c.pr.vals c.p_pr Try.underlying27 rfl sizeIdn ?_)
              exact ⟨⟨j + 1, by omega, by go_num, HS, hb⟩, by simp [intOf]; omega⟩
    · obtain rfl : j = n := by omega
      obtain rfl : R = true := by
        rw [← HR.out]
        refine each_yes c _ (fun d hd => h0.out d ?_)
        rw [HL.out] at hd
        rw [List.take_of_length_le (by rw [HN.out]; omega)]
        exact hd
      have hBr : Below w.heap.size w wr := hB.trans (hb.mono hB.size)
      clear h0 HR
      go_wp2_with fail
      go_ret
      exact ⟨rfl, hBr⟩

end Go.Proofs.Ythgmecgknhphmaa
