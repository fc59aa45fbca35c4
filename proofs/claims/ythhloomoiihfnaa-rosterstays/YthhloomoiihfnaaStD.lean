/-
  Rosters that may be: the law RosterStays, where no session may be opened, none is closed.
  Each theorem says its own conditions.
-/
import Derived.Test.YthhloomoiihfnaaRoS
import Derived.Test.YthhloomoiihfnaaRoF
namespace Go.Proofs.Ythhloomoiihfnaa
open Go.RowKit Go.Sort
set_option linter.unusedVariables false
set_option linter.unusedSimpArgs false

set_option maxHeartbeats 16000000 in
set_option maxRecDepth 10000 in
theorem staysD (l : Nat) (lb : l < 18446744073709551616) (la : Option Addr) (L : List Se) (lc : Nat) (lz : L.length * 16 ≤ 140737488351232) (lk : L.length ≤ lc) (lm : lc ≤ maxLen) (ls : ∀ x ∈ L, x.fit) (d : Nat) (he : Hid (opnE l L ≠ 0)) (hf : Hid (clsE d L ≠ 0)) (w : World) (hL : Li Se.vals 0 la L w) :
    Calls Try.prog 5 #[.agg #[.int .u64 (l : Int), .slice la L.length lc], .int .u64 (d : Int)] w fun e w' => e = .returned (.bool true) ∧ Below w.heap.size w w' := by
  have p0 := may_ok l L la lc (by omega)
  have p1 := open_ok l L la lc lz
  have p2 := close_ok d l L la lc lz
  have p3 := next_ok d l L la lc lz
  unfold Opened at p1
  unfold Closed at p2
  unfold Sent at p3
  have HE0 := fun h => okO l L h
  have HF0 := fun h => okC l d L h
  have HG0 := fun h => okN l d L h
  have m1 := opn_len l L
  have m2 := cls_len d L
  have m3 := snd_len d L
  generalize opnL l L = M1 at p1 HE0 m1
  generalize clsL d L = M2 at p2 HF0 m2
  generalize sndL d L = M3 at p3 HG0 m3
  generalize opnI l L = i1 at p1 HE0
  generalize clsI l d L = i2 at p2 HF0
  generalize sndI l d L = i3 at p3 HG0
  generalize sndN d L = y3 at p3
  generalize opnE l L = e1 at p1 HE0 he
  generalize clsE d L = e2 at p2 HF0 hf
  generalize sndE d L = e3 at p3 HG0
  have q1 : M1.length ≤ 9223372036854775807 := by omega
  have q2 : M2.length ≤ 9223372036854775807 := by omega
  have q3 : M3.length ≤ 9223372036854775807 := by omega
  obtain ⟨n1, hn1'⟩ : ∃ n1, Hid (M1.length = n1) := ⟨_, rfl⟩
  obtain ⟨n2, hn2⟩ : ∃ n2, Hid (M2.length = n2) := ⟨_, rfl⟩
  obtain ⟨n3, hn3'⟩ : ∃ n3, Hid (M3.length = n3) := ⟨_, rfl⟩
  rw [hn1'.out] at p1
  rw [hn2.out] at p2
  rw [hn3'.out] at p3
  clear m1 m2 m3
  obtain ⟨n, hn⟩ : ∃ n, Hid (L.length = n) := ⟨_, rfl⟩
  rw [hn.out] at p0 p1 p2 p3 lz lk ⊢
  have b0 := blk_new w #[.int .u64 (l : Int), .slice la n lc] 25
  have hB : Below w.heap.size w (w.alloc (.cells #[.int .u64 (l : Int), .slice la n lc] 25)) := below_box w _
  go_enter Try.func5, Try.ntmps5
  go_upto_region 1 with fail
  try simp only [Act.put]
  generalize hW0 : w.alloc (Obj.cells #[.int .u64 (l : Int), .slice la n lc] 25) = W0 at b0 hB ⊢
  clear hW0
  replace hL := hL.below hB
  go_wp2_with fail
  refine (fixed_ok _).mono ?_
  rintro r w9 ⟨rfl, hb⟩
  replace b0 := b0.below hb
  replace hL := hL.below hb
  replace hB := below_next hB hb
  clear hb
  go_wp2_with (first | refine load_want rfl 25 _ rfl b0 rfl Try.underlying25 rfl sizeRo ?_ | refine load_blk rfl 25 _ rfl b0 rfl Try.underlying25 rfl sizeRo ?_)
  refine (p0 _ hL).mono ?_
  rintro r W1 ⟨rfl, hb⟩
  replace b0 := b0.below hb
  replace hL := hL.below hb
  replace hB := below_next hB hb
  clear hb p0
  cases hm : mayS l L with
  | false =>
    clear HE0 HF0 HG0 p1 p2 p3
    go_wp2_with fail
    refine (fixed_ok _).mono ?_
    rintro r w9 ⟨rfl, hb⟩
    replace hB := below_next hB hb
    clear hb
    go_wp2_with fail
    go_ret
    exact ⟨rfl, hB⟩
  | true =>
  have HE : Hid (e1 = 161) := by
    rcases HE0 hm with h | h
    · exact absurd h.1 he.out
    · exact h
  have HF : Hid (e2 = 162) := by
    rcases HF0 hm with h | h
    · exact absurd h.1 hf.out
    · exact h
  have HG : Hid (OkN n d L e3 i3 M3) := by show OkN n d L e3 i3 M3; rw [← hn.out]; exact HG0 hm
  clear HE0 HF0 HG0 hm
  go_upto_region 3 with fail
  try simp only [Act.put]
  go_wp2_with (refine load_blk rfl 25 _ rfl b0 rfl Try.underlying25 rfl sizeRo ?_)
  refine (p1 _ hL).mono ?_
  rintro r w1 ⟨⟨a1, c1, rfl, h1⟩, hb⟩
  replace b0 := b0.below hb
  replace hL := hL.below hb
  replace hB := below_next hB hb
  replace h1 := h1.li.mono (Nat.zero_le _)
  clear hb p1
  have v1 := blk_new w1 #[.int .u64 (i1 : Int), .slice a1 n1 c1] 25
  have hb := below_box w1 (.cells #[.int .u64 (i1 : Int), .slice a1 n1 c1] 25)
  go_upto_region 4 with (go_big_may; first | refine alloc_zero zeroRo rfl rfl ?_ | refine store_new rfl 25 _ _ rfl (cells := #[.int .u64 (i1 : Int), .slice a1 n1 c1]) rfl rfl sizeRo rfl (ro_one _ _ _ _) ?_)
  try simp only [Act.put]
  generalize w1.alloc (Obj.cells #[.int .u64 (i1 : Int), .slice a1 n1 c1] 25) = W1 at v1 hb ⊢
  replace b0 := b0.below hb
  replace hL := hL.below hb
  replace h1 := h1.below hb
  replace hB := below_next hB hb
  generalize w1.heap.size = p1 at v1 hb ⊢
  clear hb
  go_wp2_with (refine load_blk rfl 25 _ rfl b0 rfl Try.underlying25 rfl sizeRo ?_)
  refine (p2 _ hL).mono ?_
  rintro r w2 ⟨⟨a2, c2, rfl, h2⟩, hb⟩
  replace b0 := b0.below hb
  replace hL := hL.below hb
  replace v1 := v1.below hb
  replace h1 := h1.below hb
  replace hB := below_next hB hb
  replace h2 := h2.li.mono (Nat.zero_le _)
  clear hb p2
  have v2 := blk_new w2 #[.int .u64 (i2 : Int), .slice a2 n2 c2] 25
  have hb := below_box w2 (.cells #[.int .u64 (i2 : Int), .slice a2 n2 c2] 25)
  go_upto_region 5 with (go_big_may; first | refine alloc_zero zeroRo rfl rfl ?_ | refine store_new rfl 25 _ _ rfl (cells := #[.int .u64 (i2 : Int), .slice a2 n2 c2]) rfl rfl sizeRo rfl (ro_one _ _ _ _) ?_)
  try simp only [Act.put]
  generalize w2.alloc (Obj.cells #[.int .u64 (i2 : Int), .slice a2 n2 c2] 25) = W2 at v2 hb ⊢
  replace b0 := b0.below hb
  replace hL := hL.below hb
  replace v1 := v1.below hb
  replace h1 := h1.below hb
  replace h2 := h2.below hb
  replace hB := below_next hB hb
  generalize w2.heap.size = p2 at v2 hb ⊢
  clear hb
  go_wp2_with (refine load_blk rfl 25 _ rfl b0 rfl Try.underlying25 rfl sizeRo ?_)
  refine (p3 _ hL).mono ?_
  rintro r w3 ⟨⟨a3, c3, rfl, h3⟩, hb⟩
  replace b0 := b0.below hb
  replace hL := hL.below hb
  replace v1 := v1.below hb
  replace v2 := v2.below hb
  replace h1 := h1.below hb
  replace h2 := h2.below hb
  replace hB := below_next hB hb
  replace h3 := h3.li.mono (Nat.zero_le _)
  clear hb p3
  have v3 := blk_new w3 #[.int .u64 (i3 : Int), .slice a3 n3 c3] 25
  have hb := below_box w3 (.cells #[.int .u64 (i3 : Int), .slice a3 n3 c3] 25)
  go_upto_region 6 with (go_big_may; first | refine alloc_zero zeroRo rfl rfl ?_ | refine store_new rfl 25 _ _ rfl (cells := #[.int .u64 (i3 : Int), .slice a3 n3 c3]) rfl rfl sizeRo rfl (ro_one _ _ _ _) ?_)
  try simp only [Act.put]
  generalize w3.alloc (Obj.cells #[.int .u64 (i3 : Int), .slice a3 n3 c3] 25) = W3 at v3 hb ⊢
  replace b0 := b0.below hb
  replace hL := hL.below hb
  replace v1 := v1.below hb
  replace v2 := v2.below hb
  replace h1 := h1.below hb
  replace h2 := h2.below hb
  replace h3 := h3.below hb
  replace hB := below_next hB hb
  generalize w3.heap.size = p3 at v3 hb ⊢
  clear hb
  have hn1 : Hid (e1 = 0 → n1 = n + 1) := fun h => by
    exact absurd (h.symm.trans HE.out) (by decide)
  have hn3 : Hid (e3 = 0 → n3 = n) := fun h => by
    rcases HG.out with ⟨_, _, h, _⟩ | rfl
    · rw [← hn3'.out]; exact h
    · cases h
  have hV := Below.refl W3.heap.size W3
  go_cut [71] from 42 to 70 (fun v wx => v = .bool false ∧ Below W3.heap.size W3 wx)
  case first =>
    obtain rfl := HE.out
    obtain rfl := HF.out
    rcases HG.out with ⟨rfl, m3, k3, x3⟩ | rfl
    · skip
      clear k3 x3
      replace m3 : Hid _ := m3
      have p10 := may_ok i3 M3 a3 c3 q3 _ h3
      rw [m3.out, hn3'.out] at p10
      have y0 := v3.cell 0 _ rfl
      have y1 := v3.cell 1 _ rfl
      go_wp2_with fail
      refine (p10).mono ?_
      rintro r wv ⟨rfl, hb⟩
      replace v1 := v1.below hb
      replace v2 := v2.below hb
      replace v3 := v3.below hb
      replace h1 := h1.below hb
      replace h2 := h2.below hb
      replace h3 := h3.below hb
      replace hV := below_next hV hb
      clear hb y0 y1
      clear p10
      go_wp2_with fail
      go_meet
      exact ⟨rfl, hV⟩
    · skip
      go_wp2_with fail
      go_meet
      exact ⟨rfl, hV⟩
  case rest =>
    obtain ⟨rfl, hb⟩ := hcut
    clear hV
    rename World => W4
    replace b0 := b0.below hb
    replace hL := hL.below hb
    replace v1 := v1.below hb
    replace v2 := v2.below hb
    replace v3 := v3.below hb
    replace h1 := h1.below hb
    replace h2 := h2.below hb
    replace h3 := h3.below hb
    replace hB := below_next hB hb
    clear hb
    go_upto_region 8 with fail
    try simp only [Act.put, List.setIfInBounds_toArray, List.set_cons_zero, List.set_cons_succ]
    have hV := Below.refl W4.heap.size W4
    have g0 : W4.cell? ⟨w.heap.size, 1, none⟩ = some (.slice la n lc) := b0.cell 1 _ rfl
    have g1 : W4.cell? ⟨p1, 1, none⟩ = some (.slice a1 n1 c1) := v1.cell 1 _ rfl
    have g3 : W4.cell? ⟨p3, 1, none⟩ = some (.slice a3 n3 c3) := v3.cell 1 _ rfl
    go_cut [96] from 72 to 95 (fun v wx => v = .bool false ∧ Below W4.heap.size W4 wx)
    case first =>
      obtain rfl := HE.out
      obtain rfl := HF.out
      rcases HG.out with ⟨rfl, m3, k3, x3⟩ | rfl
      · skip
        clear m3 k3 x3
        have t3 : ((n3 : Int) != (n : Int)) = false := by rw [bne_eq_false_iff_eq]; have := hn3.out rfl; omega
        go_wp2_with fail
        go_meet
        exact ⟨rfl, hV⟩
      · skip
        go_wp2_with fail
        go_meet
        exact ⟨rfl, hV⟩
    case rest =>
      obtain ⟨rfl, hb⟩ := hcut
      clear hV g0 g1 g3
      rename World => W5
      replace b0 := b0.below hb
      replace hL := hL.below hb
      replace v1 := v1.below hb
      replace v2 := v2.below hb
      replace v3 := v3.below hb
      replace h1 := h1.below hb
      replace h2 := h2.below hb
      replace h3 := h3.below hb
      replace hB := below_next hB hb
      clear hb
      go_wp2_with fail
      go_loopw [13] (fun iv wr => ∃ j : Nat, j ≤ n ∧ iv = .int .i64 j ∧ Below W5.heap.size W5 wr) (fun iv _ => n - (intOf iv).toNat)
      case atStart => exact ⟨0, by omega, rfl, Below.refl _ _⟩
      case round =>
        obtain ⟨j, hj, rfl, hR⟩ := hrel
        rename World => wr
        replace b0 := b0.below hR
        replace hL := hL.below hR
        replace v1 := v1.below hR
        replace v2 := v2.below hR
        replace v3 := v3.below hR
        replace h1 := h1.below hR
        replace h2 := h2.below hR
        replace h3 := h3.below hR
        replace hB := below_next hB hR
        have g0 : wr.cell? ⟨w.heap.size, 1, none⟩ = some (.slice la n lc) := b0.cell 1 _ rfl
        by_cases hjn : j < n
        · have j0 : (j : Int) < (n : Int) := by omega
          have j1 : (0 : Int) ≤ (j : Int) := by omega
          have j2 : e1 = 0 → (j : Int) < (n1 : Int) := fun h => by have := hn1.out h; omega
          have j3 : e3 = 0 → (j : Int) < (n3 : Int) := fun h => by have := hn3.out h; omega
          obtain ⟨x, hx⟩ : ∃ k, L[j]? = some k := ⟨_, List.getElem?_eq_getElem (by rw [hn.out]; exact hjn)⟩
          obtain ⟨b, o, rfl, _, hbl, hr⟩ := hL.at Se.vals_length j x hx
          have b1 := blk_new wr x.arr 41
          have hb := below_box wr (.cells x.arr 41)
          go_upto_region 14 with (go_big_may; first | refine load_range rfl 41 _ rfl x.vals hr rfl Try.underlying41 rfl sizeSe ?_ | refine alloc_zero zeroSe rfl rfl ?_ | refine store_new rfl 41 _ _ rfl (cells := x.arr) rfl rfl sizeSe rfl x.arr_one ?_)
          try simp only [Act.put, List.setIfInBounds_toArray, List.set_cons_zero, List.set_cons_succ]
          generalize wr.alloc (Obj.cells x.arr 41) = WV at b1 hb ⊢
          replace v1 := v1.below hb
          replace v2 := v2.below hb
          replace v3 := v3.below hb
          replace h1 := h1.below hb
          replace h2 := h2.below hb
          replace h3 := h3.below hb
          replace hR := below_next hR hb
          replace hB := below_next hB hb
          generalize wr.heap.size = z at b1 ⊢
          clear hb hr hbl g0
          go_cut [155] from 109 to 154 (fun v wx => v = .bool false ∧ Below WV.heap.size WV wx)
          case first =>
            by_cases hxd : x.i = d
            · skip
              obtain rfl := HE.out
              obtain rfl := HF.out
              rcases HG.out with ⟨rfl, m3, k3, x3⟩ | rfl
              · skip
                have cx : ∀ d os, (grow (redrawn WV d) os).cell? ⟨z, 0, none⟩ = some (.int .u64 (x.i : Int)) := cell_regrown (b1.cell 0 _ rfl)
                clear m3 k3 x3
                have kx : ∀ w, (binOp .neq 41 (.agg x.vals.toArray) (.agg x.vals.toArray)).run Try.prog w = .ok (.bool false) w := neqSe x x true (Se.same_self x)
                have dd : ((x.i : Int) != (d : Int)) = false := by simp [hxd]
                have dn : (x.i != d) = false := by simp [hxd]
                clear hxd j2 j3 hx
                refine wp_region_quiet_below (by kernel_rfl) (by kernel_rfl) ?_
                repeat (go_big_quiet_step (fail))
                refine wpQuiet_nil ?_
                intro _ hw'
                obtain ⟨⟨dq, osq⟩, hw''⟩ := hw'
                have hb := below_regrown WV dq osq
                subst hw''
                generalize grow (redrawn WV dq) osq = w4 at hb ⊢
                go_wp2_with fail
                go_meet
                exact ⟨rfl, hb⟩
              · skip
                have kx : ∀ w, (binOp .neq 41 (.agg x.vals.toArray) (.agg x.vals.toArray)).run Try.prog w = .ok (.bool false) w := neqSe x x true (Se.same_self x)
                have dd : ((x.i : Int) != (d : Int)) = false := by simp [hxd]
                have dn : (x.i != d) = false := by simp [hxd]
                clear hxd j2 j3 hx
                refine wp_region_quiet_below (by kernel_rfl) (by kernel_rfl) ?_
                repeat (go_big_quiet_step (fail))
                refine wpQuiet_nil ?_
                intro _ hw'
                obtain ⟨⟨dq, osq⟩, hw''⟩ := hw'
                have hb := below_regrown WV dq osq
                subst hw''
                generalize grow (redrawn WV dq) osq = w4 at hb ⊢
                go_wp2_with fail
                go_meet
                exact ⟨rfl, hb⟩
            · skip
              obtain rfl := HE.out
              obtain rfl := HF.out
              rcases HG.out with ⟨rfl, m3, k3, x3⟩ | rfl
              · skip
                have j5 := j3 rfl
                obtain ⟨bc, oc, rfl, _, hbl, hr⟩ := h3.at Se.vals_length j x (x3 j x hx hxd)
                have rc : ∀ w', (∃ p : Regrown, w' = grow (redrawn WV p.d) p.os) → w'.rangeAt bc (oc + j * 2) x.vals := fun w' ⟨p, e⟩ => e ▸ range_block hr ((below_regrown WV p.d p.os).block bc hbl)
                clear hbl hr
                have cc : ∀ d os, (grow (redrawn WV d) os).cell? ⟨p3, 1, none⟩ = some (.slice (some ⟨bc, oc, none⟩) n3 c3) := cell_regrown (v3.cell 1 _ rfl)
                have rx : ∀ w', (∃ p : Regrown, w' = grow (redrawn WV p.d) p.os) → w'.rangeAt z 0 x.vals := fun w' hw => (b1.regrown w' hw).whole
                have cx : ∀ d os, (grow (redrawn WV d) os).cell? ⟨z, 0, none⟩ = some (.int .u64 (x.i : Int)) := cell_regrown (b1.cell 0 _ rfl)
                clear m3 k3 x3
                have kx : ∀ w, (binOp .neq 41 (.agg x.vals.toArray) (.agg x.vals.toArray)).run Try.prog w = .ok (.bool false) w := neqSe x x true (Se.same_self x)
                have dd : ((x.i : Int) != (d : Int)) = true := by simp only [bne_iff_ne, ne_eq]; omega
                have dn : (x.i != d) = true := by simp only [bne_iff_ne, ne_eq]; omega
                clear hxd j2 j3 hx
                refine wp_region_quiet_below (by kernel_rfl) (by kernel_rfl) ?_
                repeat (first
                  | (go_big_quiet_want; refine quiet_range (off := oc + j * 2) rfl rfl rc Try.underlying41 rfl sizeSe ?_; simp only [Act.put, List.setIfInBounds_toArray, List.set_cons_zero, List.set_cons_succ]; go_big_quiet_on)
                  | (go_big_quiet_want; refine quiet_range (off := 0) rfl rfl rx Try.underlying41 rfl sizeSe ?_; simp only [Act.put, List.setIfInBounds_toArray, List.set_cons_zero, List.set_cons_succ]; go_big_quiet_on)
                  | go_big_quiet_step (fail))
                refine wpQuiet_nil ?_
                intro _ hw'
                obtain ⟨⟨dq, osq⟩, hw''⟩ := hw'
                have hb := below_regrown WV dq osq
                subst hw''
                generalize grow (redrawn WV dq) osq = w4 at hb ⊢
                go_wp2_with fail
                go_meet
                exact ⟨rfl, hb⟩
              · skip
                have kx : ∀ w, (binOp .neq 41 (.agg x.vals.toArray) (.agg x.vals.toArray)).run Try.prog w = .ok (.bool false) w := neqSe x x true (Se.same_self x)
                have dd : ((x.i : Int) != (d : Int)) = true := by simp only [bne_iff_ne, ne_eq]; omega
                have dn : (x.i != d) = true := by simp only [bne_iff_ne, ne_eq]; omega
                clear hxd j2 j3 hx
                refine wp_region_quiet_below (by kernel_rfl) (by kernel_rfl) ?_
                repeat (go_big_quiet_step (fail))
                refine wpQuiet_nil ?_
                intro _ hw'
                obtain ⟨⟨dq, osq⟩, hw''⟩ := hw'
                have hb := below_regrown WV dq osq
                subst hw''
                generalize grow (redrawn WV dq) osq = w4 at hb ⊢
                go_wp2_with fail
                go_meet
                exact ⟨rfl, hb⟩
          case rest =>
            obtain ⟨rfl, hb⟩ := hcut
            rename World => W9
            replace hR := below_next hR hb
            clear hb
            go_wp2_with fail
            exact ⟨⟨j + 1, by omega, by go_num, hR⟩, by simp [intOf]; omega⟩
        · obtain rfl : j = n := by omega
          go_wp2_with fail
          go_ret
          exact ⟨rfl, hB⟩

end Go.Proofs.Ythhloomoiihfnaa
