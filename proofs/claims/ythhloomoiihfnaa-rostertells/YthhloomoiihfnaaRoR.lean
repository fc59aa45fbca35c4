/-
  Rosters: what the document's Close and Next answer.
  Each theorem says its own conditions: a roster that memory bears.
-/
import Derived.Test.YthhloomoiihfnaaRoQ
namespace Go.Proofs.Ythhloomoiihfnaa
set_option maxRecDepth 10000
set_option linter.unusedSimpArgs false
open Go.RowKit Go.Sort
set_option linter.unusedVariables false
set_option linter.unusedSimpArgs false

theorem erase_take {α : Type} {L : List α} {i j : Nat} {x : α} (hx : L[j]? = some x) : (L.take (j + 1)).eraseIdx i = if j = i then (L.take j).eraseIdx i else (L.take j).eraseIdx i ++ [x] := by
  have hj := (List.getElem?_eq_some_iff.1 hx).1
  have hl : (L.take j).length = j := by rw [List.length_take]; omega
  have e : L.take (j + 1) = L.take j ++ [x] := by rw [List.take_add_one, hx]; rfl
  rw [e]
  by_cases h : j = i
  · subst h
    rw [if_pos rfl, List.eraseIdx_append_of_length_le (by omega), hl, Nat.sub_self, List.eraseIdx_of_length_le (l := L.take j) (by omega)]
    simp
  · rw [if_neg h]
    rcases Nat.lt_or_ge i j with h1 | h1
    · rw [List.eraseIdx_append_of_lt_length (by omega)]
    · rw [List.eraseIdx_of_length_le (by simp; omega), List.eraseIdx_of_length_le (by omega)]

set_option maxHeartbeats 4000000 in
theorem rclose_ok (d : Nat) (l : Nat) (L : List Se) (la : Option Addr) (lc : Nat) (lm : L.length * 16 ≤ 140737488351232) (w : World) (hS : Li Se.vals 0 la L w) :
    Calls Try.prog 10 #[.agg #[.int .u64 (l : Int), .slice la L.length lc], .int .u64 (d : Int)] w fun e w' => Closed l d L w.heap.size e w' ∧ Below w.heap.size w w' := by
  obtain ⟨iI, zI, hI, hz0, hsz, hby, hzs⟩ := infoSe
  have pf := rfind_ok d l L la lc (by omega)
  obtain ⟨n, hn⟩ : ∃ n, Hid (L.length = n) := ⟨_, rfl⟩
  rw [hn.out] at pf lm ⊢
  obtain ⟨a1, a2, hB⟩ := two_blk (T0 := 25) (T1 := 25) (C0 := #[.int .u64 (l : Int), .slice la n lc]) (C1 := #[.int .u64 0, .slice none 0 0]) (w := w) rfl
  go_enter Try.func10, Try.ntmps10
  go_upto_region 1 with (go_big_may; refine alloc_zero zeroRo rfl rfl ?_)
  try simp only [Act.put]
  generalize (w.alloc (Obj.cells #[.int .u64 (l : Int), .slice la n lc] 25)).alloc (Obj.cells #[.int .u64 0, .slice none 0 0] 25) = W at a1 a2 hB ⊢
  rcases fstS_cases d L with ⟨h1, _⟩ | ⟨i, x, h1, h2, _⟩
  · rw [h1] at pf
    have HE := fun w' => closed_no (l := l) (B := w.heap.size) (w' := w') h1
    simp only [placeI] at pf
    clear h1
    go_wp2_with (refine load_blk rfl 25 _ rfl a1 rfl Try.underlying25 rfl sizeRo ?_)
    refine (pf W (hS.below hB)).mono ?_
    rintro r w2 ⟨rfl, hb⟩
    replace a2 := a2.below hb
    replace hB := below_next hB hb
    clear pf hb a1
    go_wp2_with (first | refine build_zero builtRo rfl rfl ?_ | (refine store_all rfl 25 _ _ rfl (cells := #[.int .u64 0, .slice none 0 0]) a2 rfl rfl sizeRo rfl (ro_one _ _ _ _) ?_; intro w9 b9 k9; have hB9 := below_at hB k9 (by omega)))
    refine bodyPost_ret (w := w9) (v := .tuple #[.agg #[.int .u64 0, .slice none 0 0], .int .i64 162]) (ret_two rfl rfl b9 Try.underlying25 rfl sizeRo rfl) rfl ⟨HE w9, hB9⟩
  · rw [h1] at pf
    have hi := (List.getElem?_eq_some_iff.1 h2).1
    rw [hn.out] at hi
    have HM := fun w' a c h => closed_yes (l := l) (B := w.heap.size) (w' := w') h1 hn.out hi a c h
    simp only [placeI] at pf
    have i0 : (0 : Int) ≤ (i : Int) := by omega
    have i1 : ¬ (i : Int) < 0 := by omega
    clear h1
    go_wp2_with (refine load_blk rfl 25 _ rfl a1 rfl Try.underlying25 rfl sizeRo ?_)
    refine (pf W (hS.below hB)).mono ?_
    rintro r W1 ⟨rfl, hb⟩
    replace a1 := a1.below hb
    replace a2 := a2.below hb
    replace hB := below_next hB hb
    have q0 : W1.cell? ⟨w.heap.size, 0, none⟩ = some (.int .u64 (l : Int)) := a1.cell 0 _ rfl
    have bY := blk_new W1 #[.int .u64 (l : Int), .slice none 0 0] 25
    have hbY := below_box W1 (.cells #[.int .u64 (l : Int), .slice none 0 0] 25)
    clear pf hb h2
    go_upto_region 5 with (go_big_may; first | refine alloc_zero zeroRo rfl rfl ?_ | refine store_new rfl 25 _ _ rfl (cells := #[.int .u64 (l : Int), .slice none 0 0]) rfl rfl sizeRo rfl (ro_one _ _ _ _) ?_)
    try simp only [Act.put]
    generalize W1.alloc (Obj.cells #[.int .u64 (l : Int), .slice none 0 0] 25) = V at bY hbY ⊢
    have hw1 := a2.lt
    replace a1 := a1.below hbY
    replace a2 := a2.below hbY
    replace hB := below_next hB hbY
    generalize W1.heap.size = yp at bY hw1 ⊢
    clear hbY q0
    go_wp2_with fail
    go_loopw [8] (fun iv wr => ∃ (j : Nat) (aO : Option Addr) (m cO : Nat), j ≤ n ∧ iv = .int .i64 j ∧ Hid (((L.take j).eraseIdx i).length = m) ∧ Lg Se.vals 2 41 (yp + 1) aO cO ((L.take j).eraseIdx i) wr ∧ Blk yp #[.int .u64 (l : Int), .slice aO m cO] 25 wr ∧ Below w.heap.size w wr ∧ Blk w.heap.size #[.int .u64 (l : Int), .slice la n lc] 25 wr ∧ Blk (w.heap.size + 1) #[.int .u64 0, .slice none 0 0] 25 wr) (fun iv _ => n - (intOf iv).toNat)
    case atStart => exact ⟨0, none, 0, 0, by omega, rfl, rfl, Lg.none _ _ _, bY, hB, a1, a2⟩
    case round =>
      clear bY hB a1 a2
      obtain ⟨j, aO, m, cO, hj, rfl, hm, hG, hY, hB, a1, a2⟩ := hrel
      rename World => wr
      have c1 : wr.cell? ⟨w.heap.size, 1, none⟩ = some (.slice la n lc) := a1.cell 1 _ rfl
      have hmn : m ≤ n := by
        rw [← hm.out, ← hn.out]
        refine Nat.le_trans (List.length_eraseIdx_le _ _) ?_
        rw [List.length_take]
        omega
      by_cases hjn : j < n
      · have j0 : (j : Int) < (n : Int) := by omega
        have j1 : (0 : Int) ≤ (j : Int) := by omega
        obtain ⟨x, hx⟩ : ∃ k, L[j]? = some k := ⟨_, List.getElem?_eq_getElem (by rw [hn.out]; exact hjn)⟩
        have HE := erase_take (i := i) hx
        by_cases hji : j = i
        · have dj : ((j : Int) == (i : Int)) = true := by simp [hji]
          have dj2 : ((j : Int) != (i : Int)) = false := by simp [hji]
          rw [if_pos hji] at HE
          have HE' : Hid ((L.take (j + 1)).eraseIdx i = (L.take j).eraseIdx i) := HE
          have HN' : Hid (((L.take (j + 1)).eraseIdx i).length = m) := by show _ = _; rw [HE]; exact hm.out
          clear hji hx HE
          go_wp2_with fail
          exact ⟨⟨j + 1, aO, m, cO, by omega, by go_num, HN', by rw [HE'.out]; exact hG, hY, hB, a1, a2⟩, by simp [intOf]; omega⟩
        · have dj : ((j : Int) == (i : Int)) = false := by rw [beq_eq_false_iff_ne]; omega
          have dj2 : ((j : Int) != (i : Int)) = true := by simp only [bne_iff_ne, ne_eq]; omega
          rw [if_neg hji] at HE
          have HE' : Hid ((L.take (j + 1)).eraseIdx i = (L.take j).eraseIdx i ++ [x]) := HE
          have HN' : Hid (((L.take (j + 1)).eraseIdx i).length = m + 1) := by show _ = _; rw [HE, List.length_append, hm.out]; rfl
          obtain ⟨b, o, rfl, _, hbl, hr⟩ := (hS.below hB).at Se.vals_length j x hx
          clear hji HE hbl hr
          go_upto_region 9 with fail
          try simp only [Act.put]
          clear dj dj2 c1
          replace hG := hG.below (Below.drew (Below.refl _ _))
          replace hY := hY.drew
          refine wp_region_held_drew (S := fun v => Below w.heap.size w v ∧ Blk w.heap.size #[.int .u64 (l : Int), .slice (some ⟨b, o, none⟩) n lc] 25 v ∧ Blk (w.heap.size + 1) #[.int .u64 0, .slice none 0 0] 25 v) (by kernel_rfl) ⟨hB.drew, a1.drew, a2.drew⟩ (fun hHeld => ?_)
          refine tkQ 0 hHeld ?_
          try simp only [yy]
          refine tkQ 2 hHeld ?_
          try simp only [yy]
          refine tkH 3 (v := ?v37) rfl (by kernel_rfl) (fun _ _ _ h => h) (Or.inl ⟨by rfl, ?hy37⟩) hHeld ?rest37
          case hy37 => (intro w hSw; have hc := hSw.2.1.cell 1 (.slice (some ⟨b, o, none⟩) n lc) rfl; clear hSw; go_simp; try with_reducible rfl)
          try simp only [yy]
          refine tkQ 4 hHeld ?_
          try simp only [yy]
          refine tkQ 5 hHeld ?_
          try simp only [yy]
          refine' tkH 6 (v := _) rfl (by kernel_rfl) (fun _ _ _ h => h) (yieldsIf_load_mid (by rfl) _ _ rfl b (o + j * 2) rfl x.vals _ ?hS40 Try.underlying41 rfl sizeSe) hHeld ?rest40
          case hS40 => exact fun w h => (hS.below h.1).rng Se.vals_length j x hx
          try simp only [yy]
          refine wpAnyH_ready (rs := [1, 7]) (by kernel_rfl) (by simp) ?_
          refine AllReadyH.cons rfl (fun K hK => ?_) (AllReadyH.cons rfl (fun K hK => ?_) (AllReadyH.nil))
          · rw [if_pos (by rfl)]
            refine wp_load_cell 23 _ rfl (.slice aO m cO) rfl (hY.cell 1 _ rfl) Try.underlying23 rfl ?_
            refine hK.out _ _ hHeld (fun hHeld => ?_)
            clear hK K 
            try simp only [yy]
            refine rd1 7 (fun K hK => ?_)
            rw [if_pos (by rfl)]
            refine wp_Se _ rfl x rfl ?_
            intro g1 u2 hl2 hb
            replace hY := hY.below hb
            replace hG := hG.below hb
            refine hK.out _ _ ⟨below_next hHeld.1 hb, hHeld.2.1.below hb, hHeld.2.2.below hb⟩ (fun hHeld => ?_)
            clear hK K hb
            try simp only [yy]
            refine rd1 8 (fun K hK => ?_)
            rw [if_pos (by rfl)]
            refine wp_append_any Se.vals_length _ _ rfl Try.underlying23 hI hz0 hsz hby hzs hG hY.lt hm.out rfl (M := [x]) (m := 1) rfl (hl2.src Se.vals_length Se.vals_one Try.underlying23 1) rfl rfl (by omega) (by simp only [maxLen]; omega) ?_
            intro a3 c3 u3 hG3 hk hA3
            have hin := fun q hq => (hG.in q hq).1
            have hoff3 : yp ∉ blkOf a3 := fun hm => by have h9 := (hG3.in _ hm).1; omega
            have hY3 := hY.kp hk (fun hm => by have h9 := hin _ hm; omega)
            refine hK.out _ _ ⟨hHeld.1.trans (hk.below (fun k hk => by have h9 := hin k hk; omega) hHeld.1.size), hHeld.2.1.kp hk (fun hm => by have h9 := hin _ hm; omega), hHeld.2.2.kp hk (fun hm => by have h9 := hin _ hm; omega)⟩ (fun hHeld => ?_)
            clear hK K hk hA3 hin hl2 hY hG
            try simp only [yy]
            refine tkQ 9 hHeld ?_
            try simp only [yy]
            refine rd1 10 (fun K hK => ?_)
            rw [if_pos (by rfl)]
            refine wp_store_one 23 _ _ rfl (off := 1) (.slice a3 (m + 1) c3) hY3 rfl rfl rfl rfl sizeSS (show 1 + 1 ≤ 2 by decide) ?_
            intro u4 hY4 k4
            have hG4 := hG3.away k4 hoff3
            refine hK.out _ _ ⟨below_at hHeld.1 k4 (by omega), hHeld.2.1.kp1 k4 (by omega), hHeld.2.2.kp1 k4 (by omega)⟩ (fun hHeld => ?_)
            clear hK K k4 hoff3 hY3 hG3
            try simp only [yy]
            refine wpAnyH_done (by kernel_rfl) ?_ _
            go_wp2_with fail
            exact ⟨⟨j + 1, a3, m + 1, c3, by omega, by go_num, HN', by rw [HE'.out]; exact hG4, hY4, hHeld⟩, by simp [intOf]; omega⟩
          · rw [if_pos (by rfl)]
            refine wp_Se _ rfl x rfl ?_
            intro g1 u5 hl2 hb
            replace hY := hY.below hb
            replace hG := hG.below hb
            refine hK.out _ _ ⟨below_next hHeld.1 hb, hHeld.2.1.below hb, hHeld.2.2.below hb⟩ (fun hHeld => ?_)
            clear hK K hb
            try simp only [yy]
            refine rd1 1 (fun K hK => ?_)
            rw [if_pos (by rfl)]
            refine wp_load_cell 23 _ rfl (.slice aO m cO) rfl (hY.cell 1 _ rfl) Try.underlying23 rfl ?_
            refine hK.out _ _ hHeld (fun hHeld => ?_)
            clear hK K 
            try simp only [yy]
            refine rd1 8 (fun K hK => ?_)
            rw [if_pos (by rfl)]
            refine wp_append_any Se.vals_length _ _ rfl Try.underlying23 hI hz0 hsz hby hzs hG hY.lt hm.out rfl (M := [x]) (m := 1) rfl (hl2.src Se.vals_length Se.vals_one Try.underlying23 1) rfl rfl (by omega) (by simp only [maxLen]; omega) ?_
            intro a3 c3 u7 hG3 hk hA3
            have hin := fun q hq => (hG.in q hq).1
            have hoff3 : yp ∉ blkOf a3 := fun hm => by have h9 := (hG3.in _ hm).1; omega
            have hY3 := hY.kp hk (fun hm => by have h9 := hin _ hm; omega)
            refine hK.out _ _ ⟨hHeld.1.trans (hk.below (fun k hk => by have h9 := hin k hk; omega) hHeld.1.size), hHeld.2.1.kp hk (fun hm => by have h9 := hin _ hm; omega), hHeld.2.2.kp hk (fun hm => by have h9 := hin _ hm; omega)⟩ (fun hHeld => ?_)
            clear hK K hk hA3 hin hl2 hY hG
            try simp only [yy]
            refine tkQ 9 hHeld ?_
            try simp only [yy]
            refine rd1 10 (fun K hK => ?_)
            rw [if_pos (by rfl)]
            refine wp_store_one 23 _ _ rfl (off := 1) (.slice a3 (m + 1) c3) hY3 rfl rfl rfl rfl sizeSS (show 1 + 1 ≤ 2 by decide) ?_
            intro u8 hY4 k4
            have hG4 := hG3.away k4 hoff3
            refine hK.out _ _ ⟨below_at hHeld.1 k4 (by omega), hHeld.2.1.kp1 k4 (by omega), hHeld.2.2.kp1 k4 (by omega)⟩ (fun hHeld => ?_)
            clear hK K k4 hoff3 hY3 hG3
            try simp only [yy]
            refine wpAnyH_done (by kernel_rfl) ?_ _
            go_wp2_with fail
            exact ⟨⟨j + 1, a3, m + 1, c3, by omega, by go_num, HN', by rw [HE'.out]; exact hG4, hY4, hHeld⟩, by simp [intOf]; omega⟩
      · obtain rfl : j = n := by omega
        have e : L.take j = L := List.take_of_length_le (by rw [hn.out]; omega)
        rw [e] at hm hG
        obtain rfl : m = j - 1 := by rw [← hm.out, List.length_eraseIdx_of_lt (by rw [hn.out]; exact hi), hn.out]
        have hoff : w.heap.size + 1 ∉ blkOf aO := fun hq => by have h9 := (hG.in _ hq).1; omega
        clear e
        go_wp2_with (first | refine load_blk rfl 25 _ rfl hY rfl Try.underlying25 rfl sizeRo ?_ | (refine store_all rfl 25 _ _ rfl (cells := #[.int .u64 (l : Int), .slice aO (j - 1) cO]) a2 rfl rfl sizeRo rfl (ro_one _ _ _ _) ?_; intro w9 b9 k9; have hB9 := below_at hB k9 (by omega); have hG9 := hG.away k9 hoff))
        refine bodyPost_ret (w := w9) (v := .tuple #[.agg #[.int .u64 (l : Int), .slice aO (j - 1) cO], .int .i64 0]) (ret_two rfl rfl b9 Try.underlying25 rfl sizeRo rfl) rfl ⟨HM w9 aO cO (hG9.mono (by omega)), hB9⟩

set_option maxHeartbeats 4000000 in
theorem rnext_ok (d : Nat) (l : Nat) (L : List Se) (la : Option Addr) (lc : Nat) (lm : L.length * 16 ≤ 140737488351232) (w : World) (hS : Li Se.vals 0 la L w) :
    Calls Try.prog 12 #[.agg #[.int .u64 (l : Int), .slice la L.length lc], .int .u64 (d : Int)] w fun e w' => Sent l d L w.heap.size e w' ∧ Below w.heap.size w w' := by
  obtain ⟨iI, zI, hI, hz0, hsz, hby, hzs⟩ := infoSe
  have pf := rfind_ok d l L la lc (by omega)
  obtain ⟨n, hn⟩ : ∃ n, Hid (L.length = n) := ⟨_, rfl⟩
  rw [hn.out] at pf lm ⊢
  obtain ⟨a1, a2, hB⟩ := two_blk (T0 := 25) (T1 := 25) (C0 := #[.int .u64 (l : Int), .slice la n lc]) (C1 := #[.int .u64 0, .slice none 0 0]) (w := w) rfl
  go_enter Try.func12, Try.ntmps12
  go_upto_region 1 with (go_big_may; refine alloc_zero zeroRo rfl rfl ?_)
  try simp only [Act.put]
  generalize (w.alloc (Obj.cells #[.int .u64 (l : Int), .slice la n lc] 25)).alloc (Obj.cells #[.int .u64 0, .slice none 0 0] 25) = W at a1 a2 hB ⊢
  have hw0 : w.heap.size + 1 < W.heap.size := a2.lt
  rcases fstS_cases d L with ⟨h1, _⟩ | ⟨i, x, h1, h2, _⟩
  · rw [h1] at pf
    have HE := fun w' => sent_no (l := l) (B := w.heap.size) (w' := w') (snd_none h1)
    simp only [placeI] at pf
    clear h1
    go_wp2_with (refine load_blk rfl 25 _ rfl a1 rfl Try.underlying25 rfl sizeRo ?_)
    refine (pf W (hS.below hB)).mono ?_
    rintro r w2 ⟨rfl, hb⟩
    replace a2 := a2.below hb
    replace hB := below_next hB hb
    clear pf hb a1
    go_wp2_with (first | refine build_zero builtRo rfl rfl ?_ | (refine store_all rfl 25 _ _ rfl (cells := #[.int .u64 0, .slice none 0 0]) a2 rfl rfl sizeRo rfl (ro_one _ _ _ _) ?_; intro w9 b9 k9; have hB9 := below_at hB k9 (by omega)))
    refine bodyPost_ret (w := w9) (v := .tuple #[.agg #[.int .u64 0, .slice none 0 0], .int .u64 0, .int .i64 162]) (ret_ctt rfl rfl b9 Try.underlying25 rfl sizeRo rfl rfl) rfl ⟨HE w9, hB9⟩
  · rw [h1] at pf
    have hi := (List.getElem?_eq_some_iff.1 h2).1
    rw [hn.out] at hi
    have HS : Hid (sndS d L = if 4294967295 ≤ x.n then none else some i) := snd_of h1 h2
    simp only [placeI] at pf
    have i0 : (0 : Int) ≤ (i : Int) := by omega
    have i1 : ¬ (i : Int) < 0 := by omega
    have i2 : (i : Int) < (n : Int) := by omega
    obtain ⟨b, o, rfl, _, hbl, hr⟩ := hS.at Se.vals_length i x h2
    clear h1 hr
    go_wp2_with (refine load_blk rfl 25 _ rfl a1 rfl Try.underlying25 rfl sizeRo ?_)
    refine (pf W (hS.below hB)).mono ?_
    rintro r W1 ⟨rfl, hb⟩
    replace a1 := a1.below hb
    replace a2 := a2.below hb
    replace hB := below_next hB hb
    clear pf hb hw0
    clear W
    rename World => W
    have hw1 := a2.lt
    have c1 : W.cell? ⟨w.heap.size, 1, none⟩ = some (.slice (some ⟨b, o, none⟩) n lc) := a1.cell 1 _ rfl
    have e1 : W.cell? ⟨b, o + i * 2 + 1, none⟩ = some (.int .u64 (x.n : Int)) := (hS.below hB).rng Se.vals_length i x h2 1 _ rfl
    by_cases hx : 4294967295 ≤ x.n
    · have dx : (4294967295 : Int) ≤ (x.n : Int) := by omega
      have HE := fun w' => sent_no (l := l) (B := w.heap.size) (w' := w') (by rw [HS.out, if_pos hx] : sndS d L = none)
      clear hx HS
      go_wp2_with (first | refine build_zero builtRo rfl rfl ?_ | (refine store_all rfl 25 _ _ rfl (cells := #[.int .u64 0, .slice none 0 0]) a2 rfl rfl sizeRo rfl (ro_one _ _ _ _) ?_; intro w9 b9 k9; have hB9 := below_at hB k9 (by omega)))
      refine bodyPost_ret (w := w9) (v := .tuple #[.agg #[.int .u64 0, .slice none 0 0], .int .u64 0, .int .i64 162]) (ret_ctt rfl rfl b9 Try.underlying25 rfl sizeRo rfl rfl) rfl ⟨HE w9, hB9⟩
    have dx : decide ((4294967295 : Int) ≤ (x.n : Int)) = false := by simp; omega
    obtain ⟨k, hk⟩ : ∃ k, Hid (x.n + 1 = k) := ⟨_, rfl⟩
    have HM := fun w' a c h => sent_yes (l := l) (B := w.heap.size) (w' := w') (by rw [HS.out, if_neg hx] : sndS d L = some i) h2 hn.out hk.out a c h
    have u1 : IntKind.u64.wrap ((x.n : Int) + 1) = (k : Int) := by have := hk.out; rw [IntKind.wrap_u64]; omega
    clear hx HS
    go_upto_region 4 with fail
    try simp only [Act.put]
    clear dx c1 e1
    have hB0 := hB.size
    go_cut [8] from 24 to 30 (fun yv wx => ∃ yp aL cL, yv = .pointer (some ⟨yp, 0, none⟩) ∧ Blk yp #[.int .u64 (l : Int), .slice aL n cL] 25 wx ∧ Lg Se.vals 2 41 W.heap.size aL cL L wx ∧ yp ∉ blkOf aL ∧ W.heap.size ≤ yp ∧ Below W.heap.size W wx)
    case first =>
      refine wp_region_held_drew (S := fun v => Below W.heap.size W v) (by kernel_rfl) ((Below.refl _ _).drew) (fun hHeld => ?_)
      refine tkQ 0 hHeld ?_
      try simp only [yy]
      refine tkH 1 (v := ?v53) rfl (by kernel_rfl) (fun _ _ _ h => h) (Or.inl ⟨by rfl, ?hy53⟩) hHeld ?rest53
      case hy53 => (intro w hSw; have hc := (a1.below hSw).cell 0 (.int .u64 (l : Int)) rfl; clear hSw; go_simp; try with_reducible rfl)
      try simp only [yy]
      refine tkQ 3 hHeld ?_
      try simp only [yy]
      refine tkH 4 (v := ?v55) rfl (by kernel_rfl) (fun _ _ _ h => h) (Or.inl ⟨by rfl, ?hy55⟩) hHeld ?rest55
      case hy55 => (intro w hSw; have hc := (a1.below hSw).cell 1 (.slice (some ⟨b, o, none⟩) n lc) rfl; clear hSw; go_simp; try with_reducible rfl)
      try simp only [yy]
      refine wpAnyH_ready (rs := [2, 7]) (by kernel_rfl) (by simp) ?_
      refine AllReadyH.cons rfl (fun K hK => ?_) (AllReadyH.cons rfl (fun K hK => ?_) (AllReadyH.nil))
      · rw [if_pos (by rfl)]
        refine wp_Se0 rfl ?_
        intro g0 u1 hE hb hgl hgt
        replace hE := hE.mono (Nat.le_trans hHeld.size hgl)
        refine hK.out _ _ (below_next hHeld hb) (fun hHeld => ?_)
        clear hK K hb hgl hgt
        try simp only [yy]
        refine wpAnyH_ready (rs := [5, 7]) (by kernel_rfl) (by simp) ?_
        refine AllReadyH.cons rfl (fun K hK => ?_) (AllReadyH.cons rfl (fun K hK => ?_) (AllReadyH.nil))
        · rw [if_pos (by rfl)]
          have hx9 := (hS.below (below_next hB hHeld)).src (P := Try.prog) Se.vals_length Se.vals_one Try.underlying23 lc
          rw [hn.out] at hx9
          refine wp_append_any Se.vals_length _ _ rfl Try.underlying23 hI hz0 hsz hby hzs hE hHeld.size rfl rfl (M := L) (m := n) hn.out (by rw [hn.out]; exact hx9) rfl (Nat.zero_add n) (by omega) (by simp only [maxLen]; omega) ?_
          intro aL cL u2 hG hk hA
          rw [List.nil_append] at hG
          refine hK.out _ _ (hHeld.trans (hk.below (fun k hk => (hE.in k hk).1) hHeld.size)) (fun hHeld => ?_)
          clear hK K hk hA hx9 hE
          try simp only [yy]
          refine tkH 6 (v := .agg #[.int .u64 (l : Int), .slice aL n cL]) rfl (by kernel_rfl) (fun _ _ _ h => h) (yields_build (by rfl) 25 #[(0, .tmp 25), (1, .tmp 29)] rfl (by kernel_rfl)) hHeld ?rest56
          try simp only [yy]
          refine rd1 7 (fun K hK => ?_)
          rw [if_pos (by rfl)]
          refine wp_alloc_any zeroRo rfl ?_
          intro yp u3 hY hb hyl hyt
          have hyg := Nat.le_trans hHeld.size hyl
          have hoff : yp ∉ blkOf aL := fun hm => by have h9 := (hG.in _ hm).2; omega
          replace hG := hG.below hb
          refine hK.out _ _ (below_next hHeld hb) (fun hHeld => ?_)
          clear hK K hb hyl hyt
          try simp only [yy]
          refine rd1 8 (fun K hK => ?_)
          rw [if_pos (by rfl)]
          refine wp_store_all 25 _ _ rfl (cells := #[.int .u64 (l : Int), .slice aL n cL]) hY rfl rfl sizeRo rfl (ro_one _ _ _ _) ?_
          intro wY hY2 k9
          replace hG := hG.away k9 hoff
          refine hK.out _ _ (below_at hHeld k9 hyg) (fun hHeld => ?_)
          clear hK K k9 hY
          try simp only [yy]
          refine wpAnyH_done (by kernel_rfl) ?_ _
          go_wp2_with fail
          go_meet
          exact ⟨yp, aL, cL, rfl, hY2, hG, hoff, hyg, hHeld⟩
        · rw [if_pos (by rfl)]
          refine wp_alloc_any zeroRo rfl ?_
          intro yp u5 hY hb hyl hyt
          have hyg := Nat.le_trans hHeld.size hyl
          have hoff : yp ∉ blkOf (some ⟨g0, 0, none⟩) := fun hm => by have h9 := (hE.in _ hm).2; omega
          replace hE := hE.below hb
          refine hK.out _ _ (below_next hHeld hb) (fun hHeld => ?_)
          clear hK K hb hyl hyt
          try simp only [yy]
          refine rd1 5 (fun K hK => ?_)
          rw [if_pos (by rfl)]
          have hx9 := (hS.below (below_next hB hHeld)).src (P := Try.prog) Se.vals_length Se.vals_one Try.underlying23 lc
          rw [hn.out] at hx9
          refine wp_append_any Se.vals_length _ _ rfl Try.underlying23 hI hz0 hsz hby hzs hE hHeld.size rfl rfl (M := L) (m := n) hn.out (by rw [hn.out]; exact hx9) rfl (Nat.zero_add n) (by omega) (by simp only [maxLen]; omega) ?_
          intro aL cL u6 hG hk hA
          rw [List.nil_append] at hG
          have hyl := hY.lt
          replace hY := hY.kp hk hoff
          replace hoff : yp ∉ blkOf aL := (fun hm => by rcases hA _ hm with h | h; exact hoff h; omega)
          clear hyl
          refine hK.out _ _ (hHeld.trans (hk.below (fun k hk => (hE.in k hk).1) hHeld.size)) (fun hHeld => ?_)
          clear hK K hk hA hx9 hE
          try simp only [yy]
          refine tkH 6 (v := .agg #[.int .u64 (l : Int), .slice aL n cL]) rfl (by kernel_rfl) (fun _ _ _ h => h) (yields_build (by rfl) 25 #[(0, .tmp 25), (1, .tmp 29)] rfl (by kernel_rfl)) hHeld ?rest57
          try simp only [yy]
          refine rd1 8 (fun K hK => ?_)
          rw [if_pos (by rfl)]
          refine wp_store_all 25 _ _ rfl (cells := #[.int .u64 (l : Int), .slice aL n cL]) hY rfl rfl sizeRo rfl (ro_one _ _ _ _) ?_
          intro wY hY2 k9
          replace hG := hG.away k9 hoff
          refine hK.out _ _ (below_at hHeld k9 hyg) (fun hHeld => ?_)
          clear hK K k9 hY
          try simp only [yy]
          refine wpAnyH_done (by kernel_rfl) ?_ _
          go_wp2_with fail
          go_meet
          exact ⟨yp, aL, cL, rfl, hY2, hG, hoff, hyg, hHeld⟩
      · rw [if_pos (by rfl)]
        refine wp_alloc_any zeroRo rfl ?_
        intro yp u8 hY hb hyl hyt
        have hyg := Nat.le_trans hHeld.size hyl
        refine hK.out _ _ (below_next hHeld hb) (fun hHeld => ?_)
        clear hK K hb hyl hyt
        try simp only [yy]
        refine rd1 2 (fun K hK => ?_)
        rw [if_pos (by rfl)]
        refine wp_Se0 rfl ?_
        intro g0 u9 hE hb hgl hgt
        replace hE := hE.mono (Nat.le_trans hHeld.size hgl)
        have hyl := hY.lt
        replace hY := hY.below hb
        have hoff : yp ∉ blkOf (some ⟨g0, 0, none⟩) := fun hm => by simp [blkOf] at hm; omega
        clear hyl
        refine hK.out _ _ (below_next hHeld hb) (fun hHeld => ?_)
        clear hK K hb hgl hgt
        try simp only [yy]
        refine rd1 5 (fun K hK => ?_)
        rw [if_pos (by rfl)]
        have hx9 := (hS.below (below_next hB hHeld)).src (P := Try.prog) Se.vals_length Se.vals_one Try.underlying23 lc
        rw [hn.out] at hx9
        refine wp_append_any Se.vals_length _ _ rfl Try.underlying23 hI hz0 hsz hby hzs hE hHeld.size rfl rfl (M := L) (m := n) hn.out (by rw [hn.out]; exact hx9) rfl (Nat.zero_add n) (by omega) (by simp only [maxLen]; omega) ?_
        intro aL cL u10 hG hk hA
        rw [List.nil_append] at hG
        have hyl := hY.lt
        replace hY := hY.kp hk hoff
        replace hoff : yp ∉ blkOf aL := (fun hm => by rcases hA _ hm with h | h; exact hoff h; omega)
        clear hyl
        refine hK.out _ _ (hHeld.trans (hk.below (fun k hk => (hE.in k hk).1) hHeld.size)) (fun hHeld => ?_)
        clear hK K hk hA hx9 hE
        try simp only [yy]
        refine tkH 6 (v := .agg #[.int .u64 (l : Int), .slice aL n cL]) rfl (by kernel_rfl) (fun _ _ _ h => h) (yields_build (by rfl) 25 #[(0, .tmp 25), (1, .tmp 29)] rfl (by kernel_rfl)) hHeld ?rest58
        try simp only [yy]
        refine rd1 8 (fun K hK => ?_)
        rw [if_pos (by rfl)]
        refine wp_store_all 25 _ _ rfl (cells := #[.int .u64 (l : Int), .slice aL n cL]) hY rfl rfl sizeRo rfl (ro_one _ _ _ _) ?_
        intro wY hY2 k9
        replace hG := hG.away k9 hoff
        refine hK.out _ _ (below_at hHeld k9 hyg) (fun hHeld => ?_)
        clear hK K k9 hY
        try simp only [yy]
        refine wpAnyH_done (by kernel_rfl) ?_ _
        go_wp2_with fail
        go_meet
        exact ⟨yp, aL, cL, rfl, hY2, hG, hoff, hyg, hHeld⟩
    case rest =>
      obtain ⟨yp, aL, cL, rfl, hY, hG, hoff, hyg, hb⟩ := hcut
      rename World => V
      have hw2 := a2.lt
      have hoff1 : w.heap.size ∉ blkOf aL := fun hm => by have h9 := (hG.in _ hm).1; omega
      have hoff2 : w.heap.size + 1 ∉ blkOf aL := fun hm => by have h9 := (hG.in _ hm).1; omega
      replace a1 := a1.below hb
      replace a2 := a2.below hb
      replace hB := below_next hB hb
      clear hb
      obtain ⟨g, rfl, hBg, hO⟩ : ∃ g, aL = some ⟨g, 0, none⟩ ∧ W.heap.size ≤ g ∧ Ow Se.vals 2 41 g cL L V := by
        rcases hG with ⟨_, _, rfl⟩ | h
        · simp at h2
        · exact h
      obtain ⟨C, hC, hCs⟩ := hO.blk
      rw [hn.out] at hCs
      have hof : i * 2 + 1 + 1 ≤ C.size := by omega
      have hgy : yp ≠ g := by simpa [blkOf] using hoff
      have y0 : V.cell? ⟨yp, 1, none⟩ = some (.slice (some ⟨g, 0, none⟩) n cL) := hY.cell 1 _ rfl
      have e2 : V.cell? ⟨g, i * 2 + 1, none⟩ = some (.int .u64 (x.n : Int)) := by
        have := (hO.li (Nat.zero_le g)).rng Se.vals_length i x h2 1 _ rfl
        rw [Nat.zero_add] at this
        exact this
      clear hG hCs hoff hoff1 hoff2
      go_upto_region 6 with (go_big_may; refine store_one rfl 22 _ _ rfl (off := i * 2 + 1) (.int .u64 (k : Int)) hC (by go_simp) (by go_simp) rfl rfl sizeU64 hof ?_; intro W3 b3 k3)
      try simp only [Act.put]
      have hO3 := hO.cell1 Se.vals_length (by decide) i x h2 ⟨x.i, k⟩ (r := 1) (v := .int .u64 (k : Int)) rfl (by decide) hC b3
      have hcc : (C.setIfInBounds (i * 2 + 1) (.int .u64 (k : Int)))[i * 2 + 1]? = some (.int .u64 (k : Int)) := by rw [Array.getElem?_setIfInBounds_self_of_lt (by omega)]
      replace a1 := a1.kp1 k3 (by omega)
      replace a2 := (a2.kp1 k3 (by omega)).drew
      replace hY := hY.kp1 k3 hgy
      have hlt3 := hO3.lt
      replace hB := below_at hB k3 (by omega)
      clear hO hC k3 e2 hof y0
      refine wp_region_held_drew (S := fun v => Kp [w.heap.size + 1] W3 v) (by kernel_rfl) (Kp.drew _ _) (fun hHeld => ?_)
      refine' tkH 0 (v := _) rfl (by kernel_rfl) (fun _ _ _ h => h) (yieldsIf_load_mid (by rfl) _ _ rfl yp 0 rfl [.int .u64 (l : Int), .slice (some ⟨g, 0, none⟩) n cL] _ ?hS43 Try.underlying25 rfl sizeRo) hHeld ?rest43
      case hS43 => exact fun w h => ((hY.kp1 h (by omega)).whole)
      try simp only [yy]
      refine tkQ 1 hHeld ?_
      try simp only [yy]
      refine tkH 2 (v := ?v45) rfl (by kernel_rfl) (fun _ _ _ h => h) (Or.inl ⟨by rfl, ?hy45⟩) hHeld ?rest45
      case hy45 => (intro w hSw; have hc := (hY.kp1 hSw (by omega)).cell 1 (.slice (some ⟨g, 0, none⟩) n cL) rfl; clear hSw; go_simp; try with_reducible rfl)
      try simp only [yy]
      refine tkQ 3 hHeld ?_
      try simp only [yy]
      refine tkQ 4 hHeld ?_
      try simp only [yy]
      refine tkQ 5 hHeld ?_
      try simp only [yy]
      refine tkH 6 (v := ?v49) rfl (by kernel_rfl) (fun _ _ _ h => h) (Or.inl ⟨by rfl, ?hy49⟩) hHeld ?rest49
      case hy49 => (intro w hSw; have hc := (b3.kp1 hSw (by omega)).cell (i * 2 + 1) (.int .u64 (k : Int)) hcc; clear hSw; go_simp; try with_reducible rfl)
      try simp only [yy]
      refine rd1 7 (fun K hK => ?_)
      rw [if_pos (by rfl)]
      refine wp_store_all 25 _ _ rfl (cells := #[.int .u64 (l : Int), .slice (some ⟨g, 0, none⟩) n cL]) a2 rfl rfl sizeRo rfl (ro_one _ _ _ _) ?_
      intro w9 b9 k9
      have hO9 := (hO3.below (Below.drew (Below.refl _ _))).kp k9 (by simp; omega)
      refine hK.out _ _ (hHeld.trans k9) (fun hHeld => ?_)
      clear hK K k9
      try simp only [yy]
      refine tkQ 8 hHeld ?_
      try simp only [yy]
      refine tkQ 9 hHeld ?_
      try simp only [yy]
      refine wpAnyH_done (by kernel_rfl) ?_ _
      go_wp2_with fail
      refine bodyPost_ret (w := w9) (v := .tuple #[.agg #[.int .u64 (l : Int), .slice (some ⟨g, 0, none⟩) n cL], .int .u64 (k : Int), .int .i64 0]) (ret_ctt rfl rfl b9 Try.underlying25 rfl sizeRo rfl rfl) rfl ⟨HM w9 _ cL (Lg.of hO9 (by omega)), below_at hB hHeld (by omega)⟩

end Go.Proofs.Ythhloomoiihfnaa
