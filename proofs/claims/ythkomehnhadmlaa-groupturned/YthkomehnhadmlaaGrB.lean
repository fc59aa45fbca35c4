/-
  group: Less, mayStand, View and Keep: what each call answers.
  Each theorem says its own conditions: lists that memory bears.
-/
import Derived.Test.YthkomehnhadmlaaGrM
import Derived.Test.YthkomehnhadmlaaGrA
import Derived.Test.YthkomehnhadmlaaCm
import Derived.Test.YthkomehnhadmlaaIsM
import Derived.Test.YthkomehnhadmlaaMb
import Derived.Test.YthkomehnhadmlaaLr
namespace Go.Proofs.Ythkomehnhadmlaa
set_option maxRecDepth 10000
set_option linter.unusedSimpArgs false
open Go.RowKit Go.Sort
set_option linter.unusedVariables false
set_option linter.unusedSimpArgs false

theorem or_cmp (a b : Mr) : decide (orI [cmpI a.g b.g, cmpI a.d b.d, cmpI (a.s : Int) (b.s : Int)] < 0) = lsM a b := by
  rw [Bool.eq_iff_iff, decide_eq_true_eq, lsM_iff]
  unfold LsM
  rcases cmpI_three a.g b.g with ⟨h1, h⟩ | ⟨h1, h2, h⟩ | ⟨h1, h2, h⟩ <;> rcases cmpI_three a.d b.d with ⟨k1, k⟩ | ⟨k1, k2, k⟩ | ⟨k1, k2, k⟩ <;> rcases cmpI_three (a.s : Int) (b.s : Int) with ⟨l1, l⟩ | ⟨l1, l2, l⟩ | ⟨l1, l2, l⟩ <;> rw [h, k, l] <;> simp [orI] <;> omega

set_option maxHeartbeats 2000000 in
theorem gless_ok (a b : Mr) (w : World) : Calls Try.prog 9 #[.agg a.arr, .agg b.arr] w fun e w' => e = .returned (.bool (lsM a b)) ∧ Below w.heap.size w w' := by
  have HR := or_cmp a b
  obtain ⟨t, ht⟩ : ∃ t, Hid (lsM a b = t) := ⟨_, rfl⟩
  rw [ht.out] at HR ⊢
  have b1 := (blk_new w a.arr 35).alloc (.cells b.arr 35)
  have b2 := blk_new (w.alloc (.cells a.arr 35)) b.arr 35
  have hs : (w.alloc (.cells a.arr 35)).heap.size = w.heap.size + 1 := by simp
  have hB : Below w.heap.size w ((w.alloc (.cells a.arr 35)).alloc (.cells b.arr 35)) := (below_box w _).alloc (by simp) _
  rw [hs] at b2
  obtain ⟨W, hW⟩ : ∃ W, (w.alloc (.cells a.arr 35)).alloc (.cells b.arr 35) = W := ⟨_, rfl⟩
  rw [hW] at b1 b2 hB
  have p0 := cmpI_ok a.g b.g
  have p1 := cmpI_ok a.d b.d
  have p2 := cmpW_ok (a.s : Int) (b.s : Int)
  generalize cmpI a.g b.g = x at p0 HR
  generalize cmpI a.d b.d = y at p1 HR
  generalize cmpI (a.s : Int) (b.s : Int) = z at p2 HR
  obtain ⟨R, hR⟩ : ∃ R, Hid (orI [x, y, z] = R) := ⟨_, rfl⟩
  rw [hR.out] at HR
  have or3_ok : ∀ {g : Nat} {u : World}, Blk g (flat iv [x, y, z]).toArray 3 u → Calls Try.prog 27 #[.slice (some ⟨g, 0, none⟩) 3 3] u fun e w' => e = .returned (.int .i64 R) ∧ w' = u := fun h => by
    rw [← hR.out]
    exact or_ok _ [x, y, z] 3 (by simp) _ (li_whole h (Nat.zero_le _))
  replace HR : Hid (decide (R < 0) = t) := HR
  clear hs ht hR
  go_enter Try.func9, Try.ntmps9
  go_wp2_with fail
  refine wp_region_held_drew (S := fun w' => Blk w.heap.size a.arr 35 w' ∧ Blk (w.heap.size + 1) b.arr 35 w') (by kernel_rfl) ⟨b1, b2⟩ (fun hHeld => ?_)
  refine tkQ 0 hHeld ?_
  try simp only [yy]
  refine tkH 1 (v := ?v2) rfl (by kernel_rfl) (fun _ _ _ h => h) (Or.inl ⟨by rfl, ?hy2⟩) hHeld ?rest2
  case hy2 => (intro w hSw; have hc := hSw.1.cell 0 _ rfl; clear hSw; go_simp; try with_reducible rfl)
  try simp only [yy]
  refine tkQ 2 hHeld ?_
  try simp only [yy]
  refine tkH 3 (v := ?v4) rfl (by kernel_rfl) (fun _ _ _ h => h) (Or.inl ⟨by rfl, ?hy4⟩) hHeld ?rest4
  case hy4 => (intro w hSw; have hc := hSw.2.cell 0 _ rfl; clear hSw; go_simp; try with_reducible rfl)
  try simp only [yy]
  refine tkQ 5 hHeld ?_
  try simp only [yy]
  refine tkH 6 (v := ?v6) rfl (by kernel_rfl) (fun _ _ _ h => h) (Or.inl ⟨by rfl, ?hy6⟩) hHeld ?rest6
  case hy6 => (intro w hSw; have hc := hSw.1.cell 1 _ rfl; clear hSw; go_simp; try with_reducible rfl)
  try simp only [yy]
  refine tkQ 7 hHeld ?_
  try simp only [yy]
  refine tkH 8 (v := ?v8) rfl (by kernel_rfl) (fun _ _ _ h => h) (Or.inl ⟨by rfl, ?hy8⟩) hHeld ?rest8
  case hy8 => (intro w hSw; have hc := hSw.2.cell 1 _ rfl; clear hSw; go_simp; try with_reducible rfl)
  try simp only [yy]
  refine tkQ 10 hHeld ?_
  try simp only [yy]
  refine tkH 11 (v := ?v10) rfl (by kernel_rfl) (fun _ _ _ h => h) (Or.inl ⟨by rfl, ?hy10⟩) hHeld ?rest10
  case hy10 => (intro w hSw; have hc := hSw.1.cell 2 _ rfl; clear hSw; go_simp; try with_reducible rfl)
  try simp only [yy]
  refine tkQ 12 hHeld ?_
  try simp only [yy]
  refine tkH 13 (v := ?v12) rfl (by kernel_rfl) (fun _ _ _ h => h) (Or.inl ⟨by rfl, ?hy12⟩) hHeld ?rest12
  case hy12 => (intro w hSw; have hc := hSw.2.cell 2 _ rfl; clear hSw; go_simp; try with_reducible rfl)
  try simp only [yy]
  refine rd1 4 (fun K hK => ?_)
  go_simp
  go_wp2_with (refine (p0 _).mono ?_; rintro r w' ⟨rfl, rfl⟩)
  refine hK.out _ _ hHeld (fun hHeld => ?_)
  clear hK K
  refine rd1 9 (fun K hK => ?_)
  go_simp
  go_wp2_with (refine (p1 _).mono ?_; rintro r w' ⟨rfl, rfl⟩)
  refine hK.out _ _ hHeld (fun hHeld => ?_)
  clear hK K
  refine rd1 14 (fun K hK => ?_)
  go_simp
  go_wp2_with (refine (p2 _).mono ?_; rintro r w' ⟨rfl, rfl⟩)
  refine hK.out _ _ hHeld (fun hHeld => ?_)
  clear hK K
  refine rd1 15 (fun K hK => ?_)
  rw [if_pos (by rfl)]
  refine wp_ints3 _ _ _ rfl x y z rfl rfl rfl ?_
  have hb : Blk W.heap.size (flat iv [x, y, z]).toArray 3 (W.drew.alloc (.cells (flat iv [x, y, z]).toArray 3)) := blk_new W.drew _ _
  have ho := or3_ok hb
  clear hb
  refine hK.out _ _ ⟨hHeld.1.alloc _, hHeld.2.alloc _⟩ (fun hHeld => ?_)
  clear hK K
  try simp only [yy]
  refine rd1 16 (fun K hK => ?_)
  go_simp
  go_wp2_with (refine ho.mono ?_; rintro r w' ⟨rfl, rfl⟩)
  refine hK.out _ _ hHeld (fun hHeld => ?_)
  clear hK K
  refine tkQ 17 hHeld ?_
  try simp only [yy]
  refine tkQ 18 hHeld ?_
  try simp only [yy]
  refine wpAnyH_done (by kernel_rfl) ?_ _
  clear hHeld b1 b2 hW
  go_wp2_with fail
  go_ret
  refine ⟨by rw [HR.out]; rfl, ?_⟩
  exact hB.drew.alloc (Nat.le_trans hB.size (Nat.le_refl _)) _

set_option maxHeartbeats 1000000 in
theorem mayStand_ok (x : Mr) (w : World) : Calls Try.prog 20 #[.agg x.arr] w fun e w' => e = .returned (.bool (rgtM x)) ∧ Below w.heap.size w w' := by
  obtain ⟨t, ht⟩ : ∃ t, Hid (rgtM x = t) := ⟨_, rfl⟩
  rw [ht.out]
  have b1 := blk_new w x.arr 35
  have hB : Below w.heap.size w (w.alloc (.cells x.arr 35)) := below_box w _
  go_enter Try.func20, Try.ntmps20
  go_upto_region 1 with fail
  try simp only [Act.put]
  generalize w.alloc (Obj.cells x.arr 35) = W at b1 hB ⊢
  have q0 : W.cell? ⟨w.heap.size, 0, none⟩ = some (.int .i64 x.g) := b1.cell 0 _ rfl
  have q1 : W.cell? ⟨w.heap.size, 1, none⟩ = some (.int .i64 x.d) := b1.cell 1 _ rfl
  have q2 : W.cell? ⟨w.heap.size, 2, none⟩ = some (.int .u64 (x.s : Int)) := b1.cell 2 _ rfl
  clear b1
  by_cases h0 : 0 ≤ x.g
  · have d0 : decide ((0 : Int) ≤ x.g) = true := decide_eq_true (by omega)
    by_cases h1 : x.g ≤ 7
    · have d1 : decide (x.g < 8) = true := decide_eq_true (by omega)
      by_cases h2 : 0 ≤ x.d
      · have d2 : decide ((0 : Int) ≤ x.d) = true := decide_eq_true (by omega)
        by_cases h3 : x.d ≤ 7
        · have d3 : decide (x.d < 8) = true := decide_eq_true (by omega)
          by_cases h4 : x.s < 65536
          · have d4 : decide ((x.s : Int) ≤ 65535) = true := decide_eq_true (by omega)
            obtain rfl : t = true := ht.out.symm.trans (decide_eq_true ⟨h0, h1, h2, h3, h4⟩)
            clear h0 h1 h2 h3 h4 ht
            go_wp2_with fail
            go_ret
            exact ⟨rfl, hB⟩
          · have d4 : decide ((x.s : Int) ≤ 65535) = false := decide_eq_false (by omega)
            obtain rfl : t = false := ht.out.symm.trans (decide_eq_false (fun h => by omega))
            clear h0 h1 h2 h3 h4 ht
            go_wp2_with fail
            go_ret
            exact ⟨rfl, hB⟩
        · have d3 : decide (x.d < 8) = false := decide_eq_false (by omega)
          obtain rfl : t = false := ht.out.symm.trans (decide_eq_false (fun h => by omega))
          clear h0 h1 h2 h3 ht
          go_wp2_with fail
          go_ret
          exact ⟨rfl, hB⟩
      · have d2 : decide ((0 : Int) ≤ x.d) = false := decide_eq_false (by omega)
        obtain rfl : t = false := ht.out.symm.trans (decide_eq_false (fun h => by omega))
        clear h0 h1 h2 ht
        go_wp2_with fail
        go_ret
        exact ⟨rfl, hB⟩
    · have d1 : decide (x.g < 8) = false := decide_eq_false (by omega)
      obtain rfl : t = false := ht.out.symm.trans (decide_eq_false (fun h => by omega))
      clear h0 h1 ht
      go_wp2_with fail
      go_ret
      exact ⟨rfl, hB⟩
  · have d0 : decide ((0 : Int) ≤ x.g) = false := decide_eq_false (by omega)
    obtain rfl : t = false := ht.out.symm.trans (decide_eq_false (fun h => by omega))
    clear h0 ht
    go_wp2_with fail
    go_ret
    exact ⟨rfl, hB⟩

def FoundM (L : List Mr) (x : Mr) (e : Ending) : Prop := ∃ k : Int, e = .returned (.int .i64 k) ∧ decide (0 ≤ k) = hasM3 x L

set_option maxHeartbeats 1000000 in
theorem indexM_ok (x : Mr) (L : List Mr) (la : Option Addr) (lc : Nat) (lm : L.length ≤ 9223372036854775807) (w : World) (hS0 : Li Mr.vals 0 la L w) : Calls Try.prog 35 #[.slice la L.length lc, .agg x.arr] w fun e w' => FoundM L x e ∧ Below w.heap.size w w' := by
  obtain ⟨n, hn⟩ : ∃ n, Hid (L.length = n) := ⟨_, rfl⟩
  rw [hn.out] at lm ⊢
  have b1 := blk_new w x.arr 35
  have hB := below_box w (.cells x.arr 35)
  go_enter Try.func35, Try.ntmps35
  go_upto_region 1 with fail
  try simp only [Act.put]
  generalize w.alloc (Obj.cells x.arr 35) = W at b1 hB ⊢
  go_wp2_with fail
  go_loopw [8] (fun iv wr => ∃ j : Nat, j ≤ n ∧ iv = .int .i64 j ∧ Hid (∀ k ∈ L.take j, k ≠ x) ∧ Blk w.heap.size x.arr 35 wr ∧ Below w.heap.size w wr) (fun iv _ => n - (intOf iv).toNat)
  case atStart => exact ⟨0, by omega, rfl, fun d h => by simp at h, b1, hB⟩
  case round =>
    clear b1 hB
    obtain ⟨j, hj, rfl, h0, b1, hB⟩ := hrel
    rename World => wr
    by_cases hjn : j < n
    · have j0 : (j : Int) < (n : Int) := by omega
      have j1 : (0 : Int) ≤ (j : Int) := by omega
      obtain ⟨k, hk⟩ : ∃ k, L[j]? = some k := ⟨_, List.getElem?_eq_getElem (by rw [hn.out]; exact hjn)⟩
      obtain ⟨b, o, rfl, _, hbl, hr⟩ := (hS0.below hB).at Mr.vals_length j k hk
      obtain ⟨t, ht⟩ : ∃ t, Hid (Mr.same x k = t) := ⟨_, rfl⟩
      have kK : ∀ w, (binOp .eql 35 (.agg x.arr) (.agg k.vals.toArray)).run Try.prog w = .ok (.bool t) w := eqlMr x k t ht.out
      have lb : ∀ w', (∃ p : Regrown, w' = grow (redrawn wr p.d) p.os) → w'.rangeAt b (o + j * 3) k.vals := fun w' ⟨p, e⟩ => e ▸ range_block hr ((below_regrown wr p.d p.os).block b hbl)
      have la2 := b1.regrown
      have HF : t = true → FoundM L x (.returned (.int .i64 (j : Int))) := fun h => ⟨j, rfl, by
        rw [decide_eq_true j1, eq_comm, hasM3_iff, (Mr.same_iff x k).1 (ht.out.trans h)]
        exact List.mem_of_getElem? hk⟩
      have HN : t = false → Hid (∀ k ∈ L.take (j + 1), k ≠ x) := fun h => by
        intro e he
        rw [List.take_add_one, hk] at he
        rcases List.mem_append.1 he with he | he
        · exact h0.out e he
        · simp at he
          subst he
          rintro rfl
          rw [Mr.same_self] at ht
          have := ht.out.trans h
          cases this
      clear hk hr hbl h0 ht
      go_upto_region 4 with fail
      try simp only [Act.put, List.setIfInBounds_toArray, List.set_cons_zero, List.set_cons_succ]
      refine wp_region_quiet_below (by kernel_rfl) (by kernel_rfl) ?_
      repeat (first
        | (go_big_quiet_want; refine quiet_load rfl rfl la2 Try.underlying35 rfl sizeMr ?_; simp only [Act.put, List.setIfInBounds_toArray, List.set_cons_zero, List.set_cons_succ]; go_big_quiet_on)
        | (go_big_quiet_want; refine quiet_range (off := o + j * 3) rfl rfl lb Try.underlying35 rfl sizeMr ?_; simp only [Act.put, List.setIfInBounds_toArray, List.set_cons_zero, List.set_cons_succ]; go_big_quiet_on)
        | go_big_quiet_step (fail))
      refine wpQuiet_nil ?_
      intro _ hw'
      obtain ⟨⟨dq, osq⟩, hw''⟩ := hw'
      have hb := below_regrown wr dq osq
      subst hw''
      generalize grow (redrawn wr dq) osq = w1 at hb ⊢
      replace b1 := b1.below hb
      replace hB := hB.trans (hb.mono hB.size)
      clear hb la2 lb kK
      cases t with
      | true =>
        replace HF := HF rfl
        clear HN b1
        go_wp2_with fail
        go_ret
        exact ⟨HF, hB⟩
      | false =>
        replace HN := HN rfl
        clear HF
        go_wp2_with fail
        exact ⟨⟨j + 1, by omega, by go_num, HN, b1, hB⟩, by simp [intOf]; omega⟩
    · obtain rfl : j = n := by omega
      have HF : FoundM L x (.returned (.int .i64 (-1))) := ⟨-1, rfl, by
        rw [decide_eq_false (by omega), eq_comm, Bool.eq_false_iff]
        intro h
        exact h0.out x (by rw [List.take_of_length_le (by rw [hn.out]; omega)]; exact (hasM3_iff x L).1 h) rfl⟩
      clear h0 b1
      go_wp2_with fail
      go_ret
      exact ⟨HF, hB⟩

set_option maxHeartbeats 1000000 in
theorem containsM_ok (x : Mr) (L : List Mr) (la : Option Addr) (lc : Nat) (lm : L.length ≤ 9223372036854775807) (w : World) (hS : Li Mr.vals 0 la L w) : Calls Try.prog 22 #[.slice la L.length lc, .agg x.arr] w fun e w' => e = .returned (.bool (hasM3 x L)) ∧ Below w.heap.size w w' := by
  have pi := indexM_ok x L la lc lm
  unfold FoundM at pi
  obtain ⟨t, ht⟩ : ∃ t, Hid (hasM3 x L = t) := ⟨_, rfl⟩
  rw [ht.out] at pi ⊢
  generalize L.length = n at pi ⊢
  have b1 := blk_new w x.arr 35
  have hB := below_box w (.cells x.arr 35)
  go_enter Try.func22, Try.ntmps22
  go_wp2_with (refine load_blk rfl 35 _ rfl b1 rfl Try.underlying35 rfl sizeMr ?_)
  refine (pi _ (hS.below hB)).mono ?_
  rintro r w1 ⟨⟨k, rfl, hk⟩, hb⟩
  replace hB := below_next hB hb
  replace hk : Hid _ := hk
  clear pi hb b1
  go_wp2_with fail
  go_ret
  exact ⟨by rw [hk.out]; rfl, hB⟩

set_option maxHeartbeats 2000000 in
theorem those_ok (f : Nat) (v1 : Value) (q : Mr → Bool) (he : Enters f) (I : World → Prop) (hI : ∀ w w', I w → Below w.heap.size w w' → I w') (L : List Mr) (hf : ∀ k w, I w → Calls Try.prog f #[.agg k.arr, v1] w fun e w' => e = .returned (.bool (q k)) ∧ Below w.heap.size w w')
    (la : Option Addr) (lc : Nat) (lz : L.length * 24 ≤ 140737488355328) (w : World) (hS : Li Mr.vals 0 la L w) (hw : I w) : Calls Try.prog 24 #[.slice la L.length lc, .func (.func f) #[] #[v1]] w fun e w' => MadeMr (L.filter q) w.heap.size e w' ∧ Below w.heap.size w w' := by
  obtain ⟨iI, zI, hI', hz0, hsz, hby, hzs⟩ := infoMr
  obtain ⟨n, hn⟩ : ∃ n, Hid (L.length = n) := ⟨_, rfl⟩
  rw [hn.out] at lz ⊢
  go_enter Try.func24, Try.ntmps24
  go_wp2_with fail
  go_loopw [5, 10] (fun sv iv wr => ∃ (j m : Nat) (a : Option Addr) (c : Nat), j ≤ n ∧ m ≤ j ∧ iv = .int .i64 j ∧ sv = .slice a m c ∧ Hid (((L.take j).filter q).length = m) ∧ Lg Mr.vals 3 35 w.heap.size a c ((L.take j).filter q) wr ∧ Below w.heap.size w wr) (fun _ iv _ => n - (intOf iv).toNat)
  case atStart => exact ⟨0, 0, none, 0, by omega, by omega, rfl, rfl, rfl, Lg.none _ _ _, Below.refl _ _⟩
  case round =>
    obtain ⟨j, m, a, c, hj, hm, rfl, rfl, HM, hG, hB⟩ := hrel
    rename World => wr
    by_cases hjn : j < n
    · have j0 : (j : Int) < (n : Int) := by omega
      have j1 : (0 : Int) ≤ (j : Int) := by omega
      obtain ⟨k, hk⟩ : ∃ k, L[j]? = some k := ⟨_, List.getElem?_eq_getElem (by rw [hn.out]; exact hjn)⟩
      obtain ⟨b, o, rfl, _, hbl, hr⟩ := (hS.below hB).at Mr.vals_length j k hk
      obtain ⟨t, ht⟩ : ∃ t, Hid (q k = t) := ⟨_, rfl⟩
      have pk := hf k
      rw [ht.out] at pk
      have HT : t = true → Hid ((L.take (j + 1)).filter q = (L.take j).filter q ++ [k]) := fun h => by
        show _ = _
        rw [List.take_add_one, hk, List.filter_append]
        simp [ht.out, h]
      have HN : t = false → Hid ((L.take (j + 1)).filter q = (L.take j).filter q) := fun h => by
        show _ = _
        rw [List.take_add_one, hk, List.filter_append]
        simp [ht.out, h]
      have b1 := blk_new wr k.arr 35
      have hb := below_box wr (.cells k.arr 35)
      clear ht hk
      go_upto_region 5 with (go_big_may; first | refine load_range rfl 35 _ rfl k.vals hr rfl Try.underlying35 rfl sizeMr ?_ | refine alloc_zero zeroMr rfl rfl ?_ | refine store_new rfl 35 _ _ rfl (cells := k.arr) rfl rfl sizeMr rfl k.arr_one ?_)
      try simp only [Act.put, List.setIfInBounds_toArray, List.set_cons_zero, List.set_cons_succ]
      generalize wr.alloc (Obj.cells k.arr 35) = V at b1 hb ⊢
      replace hG := hG.below hb
      replace hB := below_next hB hb
      generalize wr.heap.size = v at b1 ⊢
      clear hb hr hbl
      have hX := hI _ _ hw hB
      go_wp2_with (refine load_blk rfl 35 _ rfl b1 rfl Try.underlying35 rfl sizeMr ?_)
      rw [he, Oper.upon_enter]
      refine (pk _ hX).mono ?_
      rintro r w2 ⟨rfl, hb⟩
      replace b1 := b1.below hb
      replace hG := hG.below hb
      replace hB := below_next hB hb
      clear hb pk hX
      cases t with
      | true =>
        replace HT := HT rfl
        have HL : Hid (((L.take (j + 1)).filter q).length = m + 1) := by show _ = _; rw [HT.out, List.length_append, HM.out]; rfl
        clear HN
        go_wp2_with (first | refine load_blk rfl 35 _ rfl b1 rfl Try.underlying35 rfl sizeMr ?_ | (refine box_Mr rfl _ rfl k rfl ?_; intro W2 hl2 hb2; have hG2 := hG.below hb2; have hB2 := below_next hB hb2) | (refine append_any Mr.vals_length rfl _ _ rfl Try.underlying22 hI' hz0 hsz hby hzs hG2 hB2.size HM.out rfl (M := [k]) (m := 1) rfl (hl2.src Mr.vals_length Mr.vals_one Try.underlying22 1) rfl (by omega) (by simp only [maxLen]; omega) ?_; intro a3 c3 W3 hG3 hK3 _; have hB3 : Below w.heap.size w W3 := hB2.trans (hK3.below (fun k hk => (hG2.in k hk).1) hB2.size)))
        rw [← HT.out] at hG3
        exact ⟨⟨j + 1, m + 1, a3, c3, by omega, by omega, by go_num, by simp, HL, hG3, hB3⟩, by simp [intOf]; omega⟩
      | false =>
        replace HN := HN rfl
        have HL : Hid (((L.take (j + 1)).filter q).length = m) := by show _ = _; rw [HN.out]; exact HM.out
        rw [← HN.out] at hG
        clear HT b1
        go_wp2_with fail
        exact ⟨⟨j + 1, m, a, c, by omega, by omega, by go_num, rfl, HL, hG, hB⟩, by simp [intOf]; omega⟩
    · obtain rfl : j = n := by omega
      have e : L.take j = L := List.take_of_length_le (by rw [hn.out]; exact Nat.le_refl _)
      rw [e] at HM hG
      have HC : MadeMr (L.filter q) w.heap.size (.returned (.slice a m c)) wr := ⟨a, c, by rw [HM.out], hG⟩
      clear e HM hG
      go_wp2_with fail
      go_ret
      exact ⟨HC, hB⟩

set_option maxHeartbeats 1000000 in
theorem viewQ_ok (g : Int) (X : Nat) (k : Mr) (w : World) (hX : Blk X #[.int .i64 g] 3 w) : Calls Try.prog 31 #[.agg k.arr, .pointer (some ⟨X, 0, none⟩)] w fun e w' => e = .returned (.bool (decide (k.g = g))) ∧ Below w.heap.size w w' := by
  have b1 := blk_new w k.arr 35
  have hB : Below w.heap.size w (w.alloc (.cells k.arr 35)) := below_box w _
  have hX1 := hX.below hB
  have q0 : (w.alloc (.cells k.arr 35)).cell? ⟨w.heap.size, 0, none⟩ = some (.int .i64 k.g) := b1.cell 0 _ rfl
  have q1 := hX1.cell 0 _ rfl
  have ht : (k.g == g) = decide (k.g = g) := by rw [Bool.eq_iff_iff]; simp
  generalize decide (k.g = g) = t at ht ⊢
  clear hX hX1 b1
  go_enter Try.func31, Try.ntmps31
  go_wp2_with fail
  go_ret
  exact ⟨rfl, hB⟩
theorem entView : Enters 31 := fun args w => by kernel_rfl

set_option maxHeartbeats 1000000 in
theorem gview_ok (g : Int) (L : List Mr) (la : Option Addr) (lc : Nat) (lz : L.length * 24 ≤ 140737488355328) (w : World) (hS : Li Mr.vals 0 la L w) : Calls Try.prog 13 #[.slice la L.length lc, .int .i64 g] w fun e w' => MadeMr (viewM g L) w.heap.size e w' ∧ Below w.heap.size w w' := by
  have b1 := blk_new w #[.int .i64 g] 3
  have hB : Below w.heap.size w (w.alloc (.cells #[.int .i64 g] 3)) := below_box w _
  have hmf : ∀ (fn : Fn) (first cap : Array Value) (w : World), (Instr.makeFunc fn first cap).run Try.prog w = .ok (.func fn first cap) w := fun _ _ _ _ => rfl
  have pt := those_ok 31 (.pointer (some ⟨w.heap.size, 0, none⟩)) (fun x => decide (x.g = g)) entView (fun u => Blk w.heap.size #[.int .i64 g] 3 u) (fun u u' h hb => h.below hb) L (fun k u hu => viewQ_ok g w.heap.size k u hu) la lc lz
  show Calls _ _ _ _ fun e w' => MadeMr (L.filter fun x => decide (x.g = g)) w.heap.size e w' ∧ _
  generalize hM : (L.filter fun x => decide (x.g = g)) = M at pt ⊢
  generalize L.length = n at pt ⊢
  clear hM
  go_enter Try.func13, Try.ntmps13
  go_upto_region 1 with fail
  try simp only [Act.put]
  generalize w.alloc (Obj.cells #[.int .i64 g] 3) = W at b1 hB ⊢
  go_wp2_with fail
  refine (pt W (hS.below hB) b1).mono ?_
  rintro r w1 ⟨⟨a, c, rfl, hG⟩, hb⟩
  have HM : MadeMr M w.heap.size (.returned (.slice a M.length c)) w1 := ⟨a, c, rfl, hG.mono hB.size⟩
  replace hB := below_next hB hb
  clear pt hb hG b1
  go_wp2_with fail
  go_ret
  exact ⟨HM, hB⟩

def IK (m : Nat → Nat) (X : Nat) (w : World) : Prop := ∃ a c, Blk X #[.slice a (lst m).length c] 56 w ∧ Li nv 0 a (lst m) w
theorem IK.below {m : Nat → Nat} {X : Nat} {w w' : World} (h : IK m X w) (hb : Below w.heap.size w w') : IK m X w' := by
  obtain ⟨a, c, h1, h2⟩ := h
  exact ⟨a, c, h1.below hb, h2.below hb⟩

set_option maxHeartbeats 1000000 in
theorem keepQ_ok (m : Nat → Nat) (X : Nat) (k : Mr) (w : World) (hX : IK m X w) : Calls Try.prog 33 #[.agg k.arr, .pointer (some ⟨X, 0, none⟩)] w fun e w' => e = .returned (.bool (isM m k.d)) ∧ Below w.heap.size w w' := by
  obtain ⟨a, c, hX, hN⟩ := hX
  have b1 := blk_new w k.arr 35
  have hB : Below w.heap.size w (w.alloc (.cells k.arr 35)) := below_box w _
  have hX1 := hX.below hB
  have hN1 := hN.below hB
  have q0 : (w.alloc (.cells k.arr 35)).cell? ⟨w.heap.size, 1, none⟩ = some (.int .i64 k.d) := b1.cell 1 _ rfl
  have q1 := hX1.cell 0 _ rfl
  have l8 := lst_len m
  have pc := contains_ok (lst m) a c k.d (by omega) _ hN1
  rw [hasL_isM] at pc
  generalize isM m k.d = t at pc ⊢
  generalize (lst m).length = n at pc q1
  clear hX hX1 b1 hN hN1 l8
  go_enter Try.func33, Try.ntmps33
  go_wp2_with fail
  refine pc.mono ?_
  rintro r w1 ⟨rfl, rfl⟩
  clear pc
  go_wp2_with fail
  go_ret
  exact ⟨rfl, hB⟩
theorem entKeep : Enters 33 := fun args w => by kernel_rfl
theorem zeroTI : (Try.prog.info? 56).map (fun i => (i.zero, i.size)) = some (some (.slice none 0 0), 1) := by kernel_rfl
theorem sizeTI : (Try.prog.info? 56).map (·.size) = some 1 := by kernel_rfl
theorem alloc_one {P : Program} {T : TypeId} {v : Value} (hz : (P.info? T).map (fun i => (i.zero, i.size)) = some (some v, 1)) (hv : v.cells = #[v]) {ops : Array Oper} {rest : List Oper} {o : Oper} {a : Act} {w : World} {Q : Exit → Act → World → Prop} (hgd : o.guard = none) (ho : o.op = .alloc T)
    (h : wpList P ops Q rest (a.put o.dst (.pointer (some ⟨w.heap.size, 0, none⟩))) (w.alloc (.cells #[v] T))) : wpList P ops Q (o :: rest) a w :=
  wpList_plain hgd fun _ hK => by
    have hz := (zero_of_info hz).1
    rw [← hv] at h
    have hk := hK _ _ h
    unfold Oper.wp execOp
    simp only [ho, Instr.alloc, Sem.run_bind, hz, Result.andThen_ok]
    exact hk
theorem keep_isM (m : Nat → Nat) (L : List Mr) : keepM m L = L.filter fun x => isM m x.d := by
  unfold keepM isM
  congr 1
  funext x
  congr 1
  rw [eq_iff_iff]
  constructor <;> rintro ⟨h1, h2, h3⟩ <;> exact ⟨h1, by omega, h3⟩

set_option maxHeartbeats 1000000 in
theorem gkeep_ok (m : Nat → Nat) (L : List Mr) (la : Option Addr) (lc : Nat) (lz : L.length * 24 ≤ 140737488355328) (w : World) (hS : Li Mr.vals 0 la L w) : Calls Try.prog 15 #[.slice la L.length lc, .agg (mbc m)] w fun e w' => MadeMr (keepM m L) w.heap.size e w' ∧ Below w.heap.size w w' := by
  rw [keep_isM]
  have b1 := blk_new w (mbc m) 28
  have hB : Below w.heap.size w (w.alloc (.cells (mbc m) 28)) := below_box w _
  have hmf : ∀ (fn : Fn) (first cap : Array Value) (w : World), (Instr.makeFunc fn first cap).run Try.prog w = .ok (.func fn first cap) w := fun _ _ _ _ => rfl
  have pt := fun X => those_ok 33 (.pointer (some ⟨X, 0, none⟩)) (fun x => isM m x.d) entKeep (IK m X) (fun u u' h hb => h.below hb) L (fun k u hu => keepQ_ok m X k u hu) la lc lz
  have pl := list_ok m
  unfold Listed at pl
  generalize hM : (L.filter fun x => isM m x.d) = M at pt ⊢
  generalize L.length = n at pt ⊢
  clear hM
  go_enter Try.func15, Try.ntmps15
  go_upto_region 1 with fail
  try simp only [Act.put]
  generalize w.alloc (Obj.cells (mbc m) 28) = W at b1 hB ⊢
  go_wp2_with (refine load_blk rfl 28 _ rfl b1 rfl Try.underlying28 rfl sizeMb ?_)
  refine (pl W).mono ?_
  rintro r w1 ⟨⟨a, c, rfl, hN⟩, hb⟩
  replace hN := hN.mono (Nat.zero_le _)
  replace hB := below_next hB hb
  have b2 := blk_new w1 #[.slice none 0 0] 56
  have hb2 := below_box w1 (.cells #[.slice none 0 0] 56)
  clear hb pl b1
  go_wp2_with (first | refine alloc_one zeroTI rfl rfl rfl ?_ | (refine store_one rfl 56 _ _ rfl (off := 0) (.slice a (lst m).length c) b2 rfl rfl rfl rfl sizeTI (by simp) ?_; intro w2 b3 k3; have hk3 : Below w1.heap.size w1 w2 := hb2.trans (k3.below1 (Nat.le_refl _) hb2.size); have hI2 : IK m w1.heap.size w2 := ⟨a, c, b3, hN.below hk3⟩; have hB2 := below_next hB hk3; clear b3 k3 hk3 b2 hb2))
  refine (pt _ w2 (hS.below hB2) hI2).mono ?_
  rintro r w3 ⟨⟨a3, c3, rfl, hG⟩, hb⟩
  have HM : MadeMr M w.heap.size (.returned (.slice a3 M.length c3)) w3 := ⟨a3, c3, rfl, hG.mono hB2.size⟩
  have hB3 := below_next hB2 hb
  clear pt hb hG hI2
  go_wp2_with fail
  go_ret
  exact ⟨HM, hB3⟩

end Go.Proofs.Ythkomehnhadmlaa
