/-
  The document's records in lines: what its Line, Text, Failed and Check answer.
  Each theorem says its own conditions.
-/
import Derived.Test.YtehmcncclpimjaaDoorAuD
namespace Go.Proofs.YtehmcncclpimjaaDoor
set_option maxRecDepth 10000
open Go.RowKit Go.Sort
set_option linter.unusedVariables false
set_option linter.unusedSimpArgs false

set_option maxHeartbeats 4000000 in
theorem rline_ok (r : Rc) (hf : r.fit) (w : World) : Calls Tryd.prog 21 #[.agg r.arr] w fun e w' => e = .returned (.string (strB (lineL r))) ∧ Below w.heap.size w w' := by
  obtain ⟨n, t, c, k⟩ := r
  obtain ⟨hf1, hf2, hf3, hf4, hf5⟩ := hf
  simp only at hf1 hf2 hf3 hf4 hf5
  have e0 : Hid (lineL ⟨n, t, c, k⟩ = digs n ++ [32] ++ digs t ++ [32] ++ sgns k ++ [32, 34] ++ quo (bL c) ++ [34, 10]) := by
    show _ = _
    simp [lineL, List.append_assoc]
  have b1 := blk_new w (Rc.arr ⟨n, t, c, k⟩) 27
  have hB := below_box w (.cells (Rc.arr ⟨n, t, c, k⟩) 27)
  have pD := rdigits_ok n hf1
  have pT := rdigits_ok t (by omega)
  have pS := rsigned_ok k hf4 hf5
  have pQ := rquoted_ok c hf3
  have l1 : (digs n).length ≤ 20 := digs_20 hf1
  have l2 : (digs t).length ≤ 20 := digs_20 (by omega)
  have l3 : (sgns k).length ≤ 21 := by
    unfold sgns
    split
    · rw [List.length_cons]; have := digs_20 (n := k.natAbs) (by omega); omega
    · have := digs_20 (n := k.natAbs) (by omega); omega
  have l4 : (quo (bL c)).length ≤ 422212465053696 := by have h1 := quo_len (bL c); have h2 := bL_len c; omega
  have hw : IntKind.u64.wrap (t : Int) = (t : Int) := by rw [IntKind.wrap_u64]; omega
  go_enter Tryd.func21, Tryd.ntmps21
  go_upto_region 1 with fail
  try simp only [Act.put, List.setIfInBounds_toArray, List.set_cons_zero, List.set_cons_succ]
  generalize w.alloc (.cells (Rc.arr ⟨n, t, c, k⟩) 27) = W at b1 hB ⊢
  have q0 : ∀ d' os, (grow (redrawn W d') os).cell? ⟨w.heap.size, 0, none⟩ = some (.int .u64 (n : Int)) := cell_regrown (b1.cell 0 _ rfl)
  have q1 : ∀ d' os, (grow (redrawn W d') os).cell? ⟨w.heap.size, 1, none⟩ = some (.int .u32 (t : Int)) := cell_regrown (b1.cell 1 _ rfl)
  have q2 : ∀ d' os, (grow (redrawn W d') os).cell? ⟨w.heap.size, 2, none⟩ = some (.string c) := cell_regrown (b1.cell 2 _ rfl)
  have q3 : ∀ d' os, (grow (redrawn W d') os).cell? ⟨w.heap.size, 3, none⟩ = some (.int .i64 k) := cell_regrown (b1.cell 3 _ rfl)
  have r0 : ∀ d' os, Calls Tryd.prog 35 #[.int .u64 (n : Int)] (grow (redrawn W d') os) fun e w'' => e = .returned (.string (strB (digs n))) ∧ ∃ p : Regrown, w'' = grow (redrawn W p.d) p.os := fun d' os => (pD _).mono fun e w'' h => ⟨h.1, ⟨d', os⟩, h.2⟩
  have r1 : ∀ d' os, Calls Tryd.prog 35 #[.int .u64 (t : Int)] (grow (redrawn W d') os) fun e w'' => e = .returned (.string (strB (digs t))) ∧ ∃ p : Regrown, w'' = grow (redrawn W p.d) p.os := fun d' os => (pT _).mono fun e w'' h => ⟨h.1, ⟨d', os⟩, h.2⟩
  have r2 : ∀ d' os, Calls Tryd.prog 36 #[.int .i64 k] (grow (redrawn W d') os) fun e w'' => e = .returned (.string (strB (sgns k))) ∧ ∃ p : Regrown, w'' = grow (redrawn W p.d) p.os := fun d' os => (pS _).mono fun e w'' h => ⟨h.1, ⟨d', os⟩, h.2⟩
  have r3 : ∀ d' os, Calls Tryd.prog 37 #[.string c] (grow (redrawn W d') os) fun e w'' => e = .returned (.string (strB (quo (bL c)))) ∧ ∃ p : Regrown, w'' = grow (redrawn W p.d) p.os := fun d' os => Calls.regrown_of (pQ _)
  clear pD pT pS pQ
  generalize digs n = dn at l1 r0 e0
  generalize digs t = dt at l2 r1 e0
  generalize sgns k = dk at l3 r2 e0
  generalize quo (bL c) = dc at l4 r3 e0
  have s1 : ∀ w, (Op.stringOp .add (strB dn) { data := #[32] }).run Tryd.prog w = .ok (.string (strB (dn ++ [32]))) w := sum_B dn [32] (by simp only [List.length_append, List.length_cons, List.length_nil]; omega)
  have s2 := sum_B (dn ++ [32]) dt (by simp only [List.length_append, List.length_cons, List.length_nil]; omega)
  have s3 : ∀ w, (Op.stringOp .add (strB (dn ++ [32] ++ dt)) { data := #[32] }).run Tryd.prog w = .ok (.string (strB (dn ++ [32] ++ dt ++ [32]))) w := sum_B (dn ++ [32] ++ dt) [32] (by simp only [List.length_append, List.length_cons, List.length_nil]; omega)
  have s4 := sum_B (dn ++ [32] ++ dt ++ [32]) dk (by simp only [List.length_append, List.length_cons, List.length_nil]; omega)
  have s5 : ∀ w, (Op.stringOp .add (strB (dn ++ [32] ++ dt ++ [32] ++ dk)) { data := #[32, 34] }).run Tryd.prog w = .ok (.string (strB (dn ++ [32] ++ dt ++ [32] ++ dk ++ [32, 34]))) w := sum_B (dn ++ [32] ++ dt ++ [32] ++ dk) [32, 34] (by simp only [List.length_append, List.length_cons, List.length_nil]; omega)
  have s6 := sum_B (dn ++ [32] ++ dt ++ [32] ++ dk ++ [32, 34]) dc (by simp only [List.length_append, List.length_cons, List.length_nil]; omega)
  have s7 : ∀ w, (Op.stringOp .add (strB (dn ++ [32] ++ dt ++ [32] ++ dk ++ [32, 34] ++ dc)) { data := #[34, 10] }).run Tryd.prog w = .ok (.string (strB (dn ++ [32] ++ dt ++ [32] ++ dk ++ [32, 34] ++ dc ++ [34, 10]))) w := sum_B (dn ++ [32] ++ dt ++ [32] ++ dk ++ [32, 34] ++ dc) [34, 10] (by simp only [List.length_append, List.length_cons, List.length_nil]; omega)
  obtain ⟨x1, e1⟩ : ∃ x, Hid (dn ++ [32] = x) := ⟨dn ++ [32], rfl⟩
  rw [e1.out] at s1 s2 s3 s4 s5 s6 s7
  obtain ⟨x2, e2⟩ : ∃ x, Hid (x1 ++ dt = x) := ⟨x1 ++ dt, rfl⟩
  rw [e2.out] at s2 s3 s4 s5 s6 s7
  obtain ⟨x3, e3⟩ : ∃ x, Hid (x2 ++ [32] = x) := ⟨x2 ++ [32], rfl⟩
  rw [e3.out] at s3 s4 s5 s6 s7
  obtain ⟨x4, e4⟩ : ∃ x, Hid (x3 ++ dk = x) := ⟨x3 ++ dk, rfl⟩
  rw [e4.out] at s4 s5 s6 s7
  obtain ⟨x5, e5⟩ : ∃ x, Hid (x4 ++ [32, 34] = x) := ⟨x4 ++ [32, 34], rfl⟩
  rw [e5.out] at s5 s6 s7
  obtain ⟨x6, e6⟩ : ∃ x, Hid (x5 ++ dc = x) := ⟨x5 ++ dc, rfl⟩
  rw [e6.out] at s6 s7
  obtain ⟨x7, e7⟩ : ∃ x, Hid (x6 ++ [34, 10] = x) := ⟨x6 ++ [34, 10], rfl⟩
  rw [e7.out] at s7
  have HF : Hid (lineL ⟨n, t, c, k⟩ = x7) := by show _ = _; rw [e0.out, e1.out, e2.out, e3.out, e4.out, e5.out, e6.out, e7.out]
  clear e0 e1 e2 e3 e4 e5 e6 e7
  refine wp_region_quiet_below (by kernel_rfl) (by kernel_rfl) ?_
  repeat (go_big_quiet_step (first | with_reducible exact r0 _ _ | with_reducible exact r1 _ _ | with_reducible exact r2 _ _ | with_reducible exact r3 _ _))
  refine wpQuiet_nil ?_
  intro _ hw'
  obtain ⟨⟨dq, osq⟩, hw''⟩ := hw'
  have hb := below_regrown W dq osq
  subst hw''
  generalize grow (redrawn W dq) osq = w1 at hb ⊢
  replace hB := hB.trans (hb.mono hB.size)
  clear hb b1 q0 q1 q2 q3 r0 r1 r2 r3 s1 s2 s3 s4 s5 s6 s7
  go_wp2_with fail
  go_ret
  exact ⟨by rw [HF.out]; rfl, hB⟩

set_option maxHeartbeats 4000000 in
theorem rtext_ok (L : List Rc) (hfit : ∀ x ∈ L, x.fit) (la : Option Addr) (lc : Nat) (lm : L.length ≤ 9223372036854775807) (hlen : (textL L).length ≤ 140737488355328) (w : World) (hS : Li Rc.vals 0 la L w) :
    Calls Tryd.prog 23 #[.slice la L.length lc] w fun e w' => e = .returned (.string (strB (textL L))) ∧ Below w.heap.size w w' := by
  obtain ⟨n, hn⟩ : ∃ n, Hid (L.length = n) := ⟨_, rfl⟩
  rw [hn.out] at lm ⊢
  have HE : Hid (textL (L.take n) = textL L) := by show _ = _; rw [← hn.out, List.take_length]
  go_enter Tryd.func23, Tryd.ntmps23
  go_wp2_with fail
  go_loopw [3, 4] (fun sv iv wr => ∃ j : Nat, j ≤ n ∧ iv = .int .i64 j ∧ sv = .string (strB (textL (L.take j))) ∧ Below w.heap.size w wr) (fun _ iv _ => n - (intOf iv).toNat)
  case atStart => exact ⟨0, by omega, rfl, rfl, Below.refl _ _⟩
  case round =>
    obtain ⟨j, hj, rfl, rfl, hB⟩ := hrel
    rename World => wr
    by_cases hjn : j < n
    · have j0 : (j : Int) < (n : Int) := by omega
      have j1 : (0 : Int) ≤ (j : Int) := by omega
      obtain ⟨x, hx⟩ : ∃ k, L[j]? = some k := ⟨_, List.getElem?_eq_getElem (by rw [hn.out]; exact hjn)⟩
      have HX : Hid (textL (L.take (j + 1)) = textL (L.take j) ++ lineL x) := textL_take hx
      have HY : (textL (L.take j)).length + (lineL x).length ≤ 9223372036854775807 := by
        have := textL_le L (j + 1)
        rw [HX.out, List.length_append] at this
        omega
      have hs := sum_B (textL (L.take j)) (lineL x) HY
      have pl := rline_ok x (hfit x (List.mem_of_getElem? hx))
      obtain ⟨b, o, hla, _, hbl, hr⟩ := (hS.below hB).at Rc.vals_length j x hx
      subst hla
      clear HY hx
      generalize textL (L.take j) = Q at HX hs ⊢
      go_wp2_with (refine load_range rfl 27 _ rfl x.vals hr rfl Tryd.underlying27 rfl sizeRc ?_)
      refine (pl wr).mono ?_
      rintro e w2 ⟨rfl, hb⟩
      replace hB := hB.trans (hb.mono hB.size)
      clear hb hr pl hbl
      go_wp2_with fail
      exact ⟨⟨j + 1, by omega, by go_num, by rw [HX.out], hB⟩, by simp [intOf]; omega⟩
    · obtain rfl : j = n := by omega
      rw [HE.out]
      clear hS
      go_wp2_with fail
      go_ret
      exact ⟨rfl, hB⟩

set_option maxHeartbeats 2000000 in
theorem rfailed_ok (L : List Rc) (la : Option Addr) (lc : Nat) (lm : L.length ≤ 9223372036854775807) (w : World) (hS : Li Rc.vals 0 la L w) :
    Calls Tryd.prog 15 #[.slice la L.length lc] w fun e w' => e = .returned (.int .i64 (failN L : Int)) ∧ w' = w := by
  obtain ⟨n, hn⟩ : ∃ n, Hid (L.length = n) := ⟨_, rfl⟩
  rw [hn.out] at lm ⊢
  go_enter Tryd.func15, Tryd.ntmps15
  go_wp2_with fail
  go_loopw [3, 4] (fun cv iv wr => ∃ j k : Nat, j ≤ n ∧ k ≤ j ∧ cv = .int .i64 k ∧ iv = .int .i64 j ∧ Hid (failN (L.take j) = k) ∧ wr = w) (fun _ iv _ => n - (intOf iv).toNat)
  case atStart => exact ⟨0, 0, by omega, by omega, rfl, rfl, rfl, rfl⟩
  case round =>
    obtain ⟨j, k, hj, hk, rfl, rfl, HK, rfl⟩ := hrel
    rename World => wr
    by_cases hjn : j < n
    · have j0 : (j : Int) < (n : Int) := by omega
      have j1 : (0 : Int) ≤ (j : Int) := by omega
      obtain ⟨x, hx⟩ : ∃ k, L[j]? = some k := ⟨_, List.getElem?_eq_getElem (by rw [hn.out]; exact hjn)⟩
      have HN : Hid (failN (L.take (j + 1)) = k + (if x.k ≠ 0 then 1 else 0)) := by show _ = _; rw [failN_take hx, HK.out]
      obtain ⟨b, o, hla, _, hbl, hr⟩ := hS.at Rc.vals_length j x hx
      subst hla
      have c0 : wr.cell? ⟨b, o + j * 4 + 3, none⟩ = some (.int .i64 x.k) := hr 3 _ rfl
      clear hr hbl hx
      by_cases h : x.k = 0
      · have d1 : (x.k != 0) = false := by simp [h]
        have HN2 : Hid (failN (L.take (j + 1)) = k) := by show _ = _; rw [HN.out, if_neg (by simp [h])]; rfl
        clear h HN
        go_wp2_with fail
        exact ⟨⟨j + 1, k, by omega, by omega, rfl, by go_num, HN2, trivial⟩, by simp [intOf]; omega⟩
      · have d1 : (x.k != 0) = true := by simp [h]
        have HN2 : Hid (failN (L.take (j + 1)) = k + 1) := by show _ = _; rw [HN.out, if_pos h]
        clear h HN
        go_wp2_with fail
        exact ⟨⟨j + 1, k + 1, by omega, by omega, by go_num, by go_num, HN2, trivial⟩, by simp [intOf]; omega⟩
    · obtain rfl : j = n := by omega
      have e : failN L = k := by have := HK.out; rw [← hn.out, List.take_length] at this; exact this
      have he : Hid (failN L = k) := e
      clear hS e
      go_wp2_with fail
      go_ret
      exact ⟨by simp [he.out], rfl⟩

set_option maxHeartbeats 4000000 in
theorem racheck_ok (L : List Rc) (la : Option Addr) (lc : Nat) (lm : L.length ≤ 9223372036854775806) (w : World) (hS : Li Rc.vals 0 la L w) :
    Calls Tryd.prog 13 #[.slice la L.length lc] w fun e w' => e = .returned (.bool (chkA L)) ∧ Below w.heap.size w w' := by
  have HA : Hid (chkA L = chkTo L L.length) := rfl
  obtain ⟨n, hn⟩ : ∃ n, Hid (L.length = n) := ⟨_, rfl⟩
  rw [hn.out] at lm HA ⊢
  go_enter Tryd.func13, Tryd.ntmps13
  go_wp2_with fail
  go_loopw [3] (fun iv wr => ∃ j : Nat, j ≤ n ∧ iv = .int .i64 j ∧ Hid (chkTo L j = true) ∧ Below w.heap.size w wr) (fun iv _ => n - (intOf iv).toNat)
  case atStart => exact ⟨0, by omega, rfl, rfl, Below.refl _ _⟩
  case round =>
    obtain ⟨j, hj, rfl, h0, hB⟩ := hrel
    rename World => wr
    by_cases hjn : j < n
    · have j0 : (j : Int) < (n : Int) := by omega
      have j1 : (0 : Int) ≤ (j : Int) := by omega
      obtain ⟨x, hx⟩ : ∃ k, L[j]? = some k := ⟨_, List.getElem?_eq_getElem (by rw [hn.out]; exact hjn)⟩
      have HF : okA L j x = false → Hid (chkA L = false) := fun h => chkTo_no L j x hx h
      have HT : okA L j x = true → Hid (chkTo L (j + 1) = true) := fun h => by show _ = _; rw [chkTo_succ L j x hx, h0.out, h]; rfl
      have hS1 := hS.below hB
      obtain ⟨b, o, hla, _, hbl, hr⟩ := hS1.at Rc.vals_length j x hx
      subst hla
      have q0 : ∀ d' os, (grow (redrawn wr d') os).cell? ⟨b, o + j * 4, none⟩ = some (.int .u64 (x.n : Int)) := cell_regrown (hr 0 _ rfl)
      have q1 : ∀ d' os, (grow (redrawn wr d') os).cell? ⟨b, o + j * 4 + 1, none⟩ = some (.int .u32 (x.t : Int)) := cell_regrown (hr 1 _ rfl)
      have hw1 : IntKind.i64.wrap ((j : Int) + 1) = (j : Int) + 1 := by rw [IntKind.wrap_i64]; omega
      have hw3 : IntKind.u64.wrap ((j : Int) + 1) = (j : Int) + 1 := by rw [IntKind.wrap_u64]; omega
      by_cases h1 : x.n = j + 1
      · have d1 : ((x.n : Int) != (j : Int) + 1) = false := by simp [h1]
        by_cases hj0 : j = 0
        · have HT2 := HT (by unfold okA; simp [h1, hj0])
          have d5 : decide (0 < j) = false := by simp [hj0]
          have d6 : decide ((0 : Int) < (j : Int)) = false := by simp [hj0]
          clear HF HT h1 hx hr hbl hS1 hj0
          go_upto_region 4 with fail
          try simp only [Act.put, List.setIfInBounds_toArray, List.set_cons_zero, List.set_cons_succ]
          refine wp_region_quiet_below (by kernel_rfl) (by kernel_rfl) ?_
          repeat (go_big_quiet_step (fail))
          refine wpQuiet_nil ?_
          intro _ hw'
          obtain ⟨⟨dq, osq⟩, hw''⟩ := hw'
          have hb := below_regrown wr dq osq
          subst hw''
          generalize grow (redrawn wr dq) osq = w1 at hb ⊢
          replace hB := hB.trans (hb.mono hB.size)
          clear hb q0 q1 
          go_wp2_with fail
          exact ⟨⟨j + 1, by omega, by go_num, HT2, hB⟩, by simp [intOf]; omega⟩
        · obtain ⟨i, hi⟩ : ∃ i, j = i + 1 := ⟨j - 1, by omega⟩
          obtain ⟨p, hp⟩ : ∃ k, L[i]? = some k := ⟨_, List.getElem?_eq_getElem (by rw [hn.out]; omega)⟩
          have hok : okA L j x = decide (p.t ≤ x.t) := by unfold okA; rw [hi]; simp [hp]; intro _; omega
          have q2 : ∀ d' os, (grow (redrawn wr d') os).cell? ⟨b, o + i * 4 + 1, none⟩ = some (.int .u32 (p.t : Int)) := cell_regrown (hS1.rng Rc.vals_length i p hp 1 _ rfl)
          have hw2 : IntKind.i64.wrap ((j : Int) - 1) = (i : Int) := by rw [IntKind.wrap_i64]; omega
          have d5 : decide (0 < j) = true := by simp; omega
          have d6 : decide ((0 : Int) < (j : Int)) = true := by simp; omega
          have i0 : (0 : Int) ≤ (i : Int) := by omega
          have i1 : (i : Int) < (n : Int) := by omega
          rw [hok] at HF HT
          by_cases h2 : p.t ≤ x.t
          · have HT2 := HT (by simp [h2])
            have d2 : decide (x.t < p.t) = false := by simp; omega
            have d3 : decide ((x.t : Int) < (p.t : Int)) = false := by simp; omega
            clear HF HT h1 hx hr hbl hS1 hok hp hi h2
            go_upto_region 4 with fail
            try simp only [Act.put, List.setIfInBounds_toArray, List.set_cons_zero, List.set_cons_succ]
            refine wp_region_quiet_below (by kernel_rfl) (by kernel_rfl) ?_
            repeat (go_big_quiet_step (fail))
            refine wpQuiet_nil ?_
            intro _ hw'
            obtain ⟨⟨dq, osq⟩, hw''⟩ := hw'
            have hb := below_regrown wr dq osq
            subst hw''
            generalize grow (redrawn wr dq) osq = w1 at hb ⊢
            replace hB := hB.trans (hb.mono hB.size)
            clear hb q0 q1 q2
            go_wp2_with fail
            exact ⟨⟨j + 1, by omega, by go_num, HT2, hB⟩, by simp [intOf]; omega⟩
          · have HF2 := HF (by simp [h2])
            have d2 : decide (x.t < p.t) = true := by simp; omega
            have d3 : decide ((x.t : Int) < (p.t : Int)) = true := by simp; omega
            clear HF HT h1 hx hr hbl hS1 hok hp hi h2
            go_upto_region 4 with fail
            try simp only [Act.put, List.setIfInBounds_toArray, List.set_cons_zero, List.set_cons_succ]
            refine wp_region_quiet_below (by kernel_rfl) (by kernel_rfl) ?_
            repeat (go_big_quiet_step (fail))
            refine wpQuiet_nil ?_
            intro _ hw'
            obtain ⟨⟨dq, osq⟩, hw''⟩ := hw'
            have hb := below_regrown wr dq osq
            subst hw''
            generalize grow (redrawn wr dq) osq = w1 at hb ⊢
            replace hB := hB.trans (hb.mono hB.size)
            clear hb q0 q1 q2
            go_wp2_with fail
            go_ret
            exact ⟨by simp [HF2.out], hB⟩
      · have d1 : ((x.n : Int) != (j : Int) + 1) = true := by simp; omega
        have HF2 := HF (by unfold okA; simp [h1])
        clear HF HT h1 hx hr hbl hS1
        go_upto_region 4 with fail
        try simp only [Act.put, List.setIfInBounds_toArray, List.set_cons_zero, List.set_cons_succ]
        refine wp_region_quiet_below (by kernel_rfl) (by kernel_rfl) ?_
        repeat (go_big_quiet_step (fail))
        refine wpQuiet_nil ?_
        intro _ hw'
        obtain ⟨⟨dq, osq⟩, hw''⟩ := hw'
        have hb := below_regrown wr dq osq
        subst hw''
        generalize grow (redrawn wr dq) osq = w1 at hb ⊢
        replace hB := hB.trans (hb.mono hB.size)
        clear hb q0 q1 
        go_wp2_with fail
        go_ret
        exact ⟨by simp [HF2.out], hB⟩
    · obtain rfl : j = n := by omega
      clear hS
      go_wp2_with fail
      go_ret
      exact ⟨by simp [HA.out, h0.out], hB⟩

end Go.Proofs.YtehmcncclpimjaaDoor
