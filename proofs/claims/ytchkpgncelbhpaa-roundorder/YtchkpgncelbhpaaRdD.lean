/-
  One's position: what the code answers.
  Counts are such as a uint32 holds.
-/
import Derived.Test.YtchkpgncelbhpaaRdA
namespace Go.Proofs.Ytchkpgncelbhpaa
set_option maxRecDepth 10000
open Go.RowKit Go.Sort

def fst (c : Nat → Nat) (q : Nat) (L : List Nat) : Option Nat := L.find? fun d => decide (c d = q)
theorem fst_at (c : Nat → Nat) (q : Nat) (L : List Nat) (j d : Nat) (h : L[j]? = some d) (h0 : ∀ e ∈ L.take j, c e ≠ q) (h1 : c d = q) : fst c q L = some d := by
  have e : L = L.take j ++ d :: L.drop (j + 1) := by
    have hj : j < L.length := (List.getElem?_eq_some_iff.1 h).1
    have h2 : L[j] = d := by rw [List.getElem?_eq_getElem hj] at h; injection h
    conv => lhs; rw [← List.take_append_drop j L, List.drop_eq_getElem_cons hj, h2]
  rw [fst, e, List.find?_append, List.find?_cons_of_pos (by simpa using h1)]
  rw [List.find?_eq_none.2 (fun x hx => by simpa using h0 x hx)]
  rfl
theorem fst_none (c : Nat → Nat) (q : Nat) (L : List Nat) (h0 : ∀ e ∈ L, c e ≠ q) : fst c q L = none := List.find?_eq_none.2 (fun x hx => by simpa using h0 x hx)
theorem posP_some (c m : Nat → Nat) (d : Nat) (h : fst c (leastC c m) (lst m) = some d) : posP c m = ⟨nxt (leastC c m), (d : Int), 0⟩ := by
  unfold posP
  unfold fst at h
  rw [h]
theorem posP_none (c m : Nat → Nat) (h : fst c (leastC c m) (lst m) = none) : posP c m = Pl.zero := by
  unfold posP
  unfold fst at h
  rw [h]
theorem nxt_lt {n : Nat} (h : n < 4294967295) : nxt n = n + 1 := if_pos h
theorem nxt_ge {n : Nat} (h : ¬ n < 4294967295) : nxt n = n := if_neg h

set_option maxHeartbeats 2000000 in
theorem pos_ok (c m : Nat → Nat) (hc : ∀ i, c i < 4294967296) (w : World) : Calls Try.prog 15 #[.agg (mbc c), .agg (mbc m)] w fun e w' => e = .returned (.agg (posP c m).arr) ∧ Below w.heap.size w w' := by
  obtain ⟨a0, a1, a2, hB⟩ := three_blk (T0 := 24) (T1 := 25) (T2 := 27) (C0 := mbc c) (C1 := mbc m) (C2 := Pl.zero.arr) (w := w) rfl
  obtain ⟨R, hR⟩ : ∃ R, posP c m = R := ⟨_, rfl⟩
  rw [hR]
  have hql := leastC_lt c m hc
  have pL := cleast_ok c m
  have HF1 : Hid (∀ d, fst c (leastC c m) (lst m) = some d → R = ⟨nxt (leastC c m), (d : Int), 0⟩) := fun d h => by rw [← hR]; exact posP_some c m d h
  have HF2 : Hid (fst c (leastC c m) (lst m) = none → R = Pl.zero) := fun h => by rw [← hR]; exact posP_none c m h
  have hm8 := lst_len m
  have HM : Hid (∀ j d, (lst m)[j]? = some d → d < 8) := fun j d h => (at_lst m j d h).1
  have hl := list_ok m
  unfold Listed at hl
  generalize leastC c m = q at *
  generalize (!(lst m).isEmpty) = y at pL
  generalize lst m = L at *
  obtain ⟨x, hx⟩ : ∃ x, nxt q = x := ⟨_, rfl⟩
  rw [hx] at HF1
  clear hR hc
  go_enter Try.func15, Try.ntmps15
  go_upto_region 1 with (refine alloc_zero zeroPl rfl rfl ?_)
  generalize ((w.alloc (Obj.cells (mbc c) 24)).alloc (Obj.cells (mbc m) 25)).alloc (Obj.cells Pl.zero.arr 27) = W at a0 a1 a2 hB ⊢
  go_wp2_with (first | refine load_blk rfl 24 _ rfl a0 rfl Try.underlying24 rfl sizeCt ?_ | refine load_blk rfl 25 _ rfl a1 rfl Try.underlying25 rfl sizeMb ?_)
  refine (pL _).mono ?_
  rintro r w1 ⟨rfl, hb⟩
  replace a0 := a0.below hb
  replace a1 := a1.below hb
  replace a2 := a2.below hb
  replace hB := hB.trans (hb.mono hB.size)
  clear hb pL
  by_cases hq : q < 4294967295
  · have g0 : decide ((q : Int) < 4294967295) = true := by simp; omega
    have g1 : IntKind.u32.wrap ((q : Int) + 1) = (x : Int) := by rw [← hx, nxt_lt hq, IntKind.wrap_u32]; omega
    clear hq hql hx
    go_wp2_with (refine load_blk rfl 25 _ rfl a1 rfl Try.underlying25 rfl sizeMb ?_)
    refine (hl _).mono ?_
    rintro r w2 ⟨⟨la, lc, rfl, hS⟩, hb⟩
    replace a0 := a0.below hb
    replace a2 := a2.below hb
    replace hB := hB.trans (hb.mono hB.size)
    replace hS := hS.mono (Nat.zero_le _)
    clear hb hl a1 g0 g1
    obtain ⟨n, hn⟩ : ∃ n, L.length = n := ⟨_, rfl⟩
    have HN : Hid (L.length = n) := hn
    rw [hn] at hm8 ⊢
    clear hn
    go_wp2_with fail
    go_loopw [24] (fun iv wr => ∃ j : Nat, j ≤ n ∧ iv = .int .i64 j ∧ wr = w2 ∧ Hid (∀ e ∈ L.take j, c e ≠ q)) (fun iv _ => n - (intOf iv).toNat)
    case atStart => exact ⟨0, by omega, rfl, rfl, fun e h => by simp at h⟩
    case round =>
      obtain ⟨j, hj, rfl, rfl, h0⟩ := hrel
      by_cases hjn : j < n
      · have j0 : (j : Int) < (n : Int) := by omega
        have j1 : (0 : Int) ≤ (j : Int) := by omega
        obtain ⟨d, hd⟩ : ∃ d, L[j]? = some d := ⟨_, List.getElem?_eq_getElem (by rw [HN.out]; exact hjn)⟩
        have hd8 := HM.out j d hd
        have d0 : (d : Int) < 8 := by omega
        have d1 : (0 : Int) ≤ (d : Int) := by omega
        obtain ⟨b, o, rfl, _, hbl, hr⟩ := hS.at nv_length j d hd
        have c0 : wr.cell? ⟨b, o + j, none⟩ = some (.int .i64 (d : Int)) := by have := hr 0 _ rfl; simpa using this
        have c1 := a0.cell d _ (mbc_get c d hd8)
        by_cases h1 : c d = q
        · have hR := HF1.out d (fst_at c q L j d hd h0.out h1)
          subst hR
          have hpa : putAt Pl.zero.arr 0 (Pl.mk x (d : Int) 0).arr.toList = (Pl.mk x (d : Int) 0).arr := putAt_all _ _ rfl
          have g2 : ((c d : Int) == (q : Int)) = true := by simp [h1]
          clear h1 hr hd h0 hS HF1 HF2 HM
          go_wp2_with (first | refine build_as rfl 27 #[(0, .tmp 33), (1, .tmp 34)] rfl (C := (Pl.mk x (d : Int) 0).arr) (builtPl2 x d) ?_ | (refine store_part rfl 27 _ _ rfl (off := 0) (cells := (Pl.mk x (d : Int) 0).arr) a2 rfl rfl sizePl (by simp [Pl.arr_size]) (Pl.arr_one _) ?_; intro w9 b9 k9; rw [hpa] at b9; have hB9 : Below w.heap.size w w9 := hB.trans (k9.below1 (by omega) hB.size)))
          refine bodyPost_ret (w := w9) (v := .agg (Pl.mk x (d : Int) 0).arr) (ret_one rfl rfl b9 Try.underlying27 rfl sizePl) rfl ⟨rfl, hB9⟩
        · have HS : Hid (∀ e ∈ L.take (j + 1), c e ≠ q) := by
            intro e he
            rw [List.take_add_one, hd] at he
            rcases List.mem_append.1 he with he | he
            · exact h0.out e he
            · simp at he
              rw [he]
              exact h1
          have g2 : ((c d : Int) == (q : Int)) = false := by rw [beq_eq_false_iff_ne]; omega
          clear h1 hr hd h0
          go_wp2_with fail
          exact ⟨⟨j + 1, by omega, by go_num, trivial, HS⟩, by simp [intOf]; omega⟩
      · obtain rfl : j = n := by omega
        have hR := HF2.out (fst_none c q L (fun e he => h0.out e (by rw [List.take_of_length_le (by rw [HN.out]; omega)]; exact he)))
        subst hR
        have hpa : putAt Pl.zero.arr 0 Pl.zero.arr.toList = Pl.zero.arr := putAt_all _ _ rfl
        clear h0 hS HF1 HF2 HM HN
        go_wp2_with (first | refine build_zero builtPl rfl rfl ?_ | (refine store_part rfl 27 _ _ rfl (off := 0) (cells := Pl.zero.arr) a2 rfl rfl sizePl (by simp [Pl.arr_size]) (Pl.arr_one _) ?_; intro w9 b9 k9; rw [hpa] at b9; have hB9 : Below w.heap.size w w9 := hB.trans (k9.below1 (by omega) hB.size)))
        refine bodyPost_ret (w := w9) (v := .agg Pl.zero.arr) (ret_one rfl rfl b9 Try.underlying27 rfl sizePl) rfl ⟨rfl, hB9⟩
  · have g0 : decide ((q : Int) < 4294967295) = false := by simp; omega
    obtain rfl : q = x := by rw [← hx, nxt_ge hq]
    have g1 := True.intro
    clear hq hql hx
    go_wp2_with (refine load_blk rfl 25 _ rfl a1 rfl Try.underlying25 rfl sizeMb ?_)
    refine (hl _).mono ?_
    rintro r w2 ⟨⟨la, lc, rfl, hS⟩, hb⟩
    replace a0 := a0.below hb
    replace a2 := a2.below hb
    replace hB := hB.trans (hb.mono hB.size)
    replace hS := hS.mono (Nat.zero_le _)
    clear hb hl a1 g0 g1
    obtain ⟨n, hn⟩ : ∃ n, L.length = n := ⟨_, rfl⟩
    have HN : Hid (L.length = n) := hn
    rw [hn] at hm8 ⊢
    clear hn
    go_wp2_with fail
    go_loopw [24] (fun iv wr => ∃ j : Nat, j ≤ n ∧ iv = .int .i64 j ∧ wr = w2 ∧ Hid (∀ e ∈ L.take j, c e ≠ q)) (fun iv _ => n - (intOf iv).toNat)
    case atStart => exact ⟨0, by omega, rfl, rfl, fun e h => by simp at h⟩
    case round =>
      obtain ⟨j, hj, rfl, rfl, h0⟩ := hrel
      by_cases hjn : j < n
      · have j0 : (j : Int) < (n : Int) := by omega
        have j1 : (0 : Int) ≤ (j : Int) := by omega
        obtain ⟨d, hd⟩ : ∃ d, L[j]? = some d := ⟨_, List.getElem?_eq_getElem (by rw [HN.out]; exact hjn)⟩
        have hd8 := HM.out j d hd
        have d0 : (d : Int) < 8 := by omega
        have d1 : (0 : Int) ≤ (d : Int) := by omega
        obtain ⟨b, o, rfl, _, hbl, hr⟩ := hS.at nv_length j d hd
        have c0 : wr.cell? ⟨b, o + j, none⟩ = some (.int .i64 (d : Int)) := by have := hr 0 _ rfl; simpa using this
        have c1 := a0.cell d _ (mbc_get c d hd8)
        by_cases h1 : c d = q
        · have hR := HF1.out d (fst_at c q L j d hd h0.out h1)
          subst hR
          have hpa : putAt Pl.zero.arr 0 (Pl.mk q (d : Int) 0).arr.toList = (Pl.mk q (d : Int) 0).arr := putAt_all _ _ rfl
          have g2 : ((c d : Int) == (q : Int)) = true := by simp [h1]
          clear h1 hr hd h0 hS HF1 HF2 HM
          go_wp2_with (first | refine build_as rfl 27 #[(0, .tmp 33), (1, .tmp 34)] rfl (C := (Pl.mk q (d : Int) 0).arr) (builtPl2 q d) ?_ | (refine store_part rfl 27 _ _ rfl (off := 0) (cells := (Pl.mk q (d : Int) 0).arr) a2 rfl rfl sizePl (by simp [Pl.arr_size]) (Pl.arr_one _) ?_; intro w9 b9 k9; rw [hpa] at b9; have hB9 : Below w.heap.size w w9 := hB.trans (k9.below1 (by omega) hB.size)))
          refine bodyPost_ret (w := w9) (v := .agg (Pl.mk q (d : Int) 0).arr) (ret_one rfl rfl b9 Try.underlying27 rfl sizePl) rfl ⟨rfl, hB9⟩
        · have HS : Hid (∀ e ∈ L.take (j + 1), c e ≠ q) := by
            intro e he
            rw [List.take_add_one, hd] at he
            rcases List.mem_append.1 he with he | he
            · exact h0.out e he
            · simp at he
              rw [he]
              exact h1
          have g2 : ((c d : Int) == (q : Int)) = false := by rw [beq_eq_false_iff_ne]; omega
          clear h1 hr hd h0
          go_wp2_with fail
          exact ⟨⟨j + 1, by omega, by go_num, trivial, HS⟩, by simp [intOf]; omega⟩
      · obtain rfl : j = n := by omega
        have hR := HF2.out (fst_none c q L (fun e he => h0.out e (by rw [List.take_of_length_le (by rw [HN.out]; omega)]; exact he)))
        subst hR
        have hpa : putAt Pl.zero.arr 0 Pl.zero.arr.toList = Pl.zero.arr := putAt_all _ _ rfl
        clear h0 hS HF1 HF2 HM HN
        go_wp2_with (first | refine build_zero builtPl rfl rfl ?_ | (refine store_part rfl 27 _ _ rfl (off := 0) (cells := Pl.zero.arr) a2 rfl rfl sizePl (by simp [Pl.arr_size]) (Pl.arr_one _) ?_; intro w9 b9 k9; rw [hpa] at b9; have hB9 : Below w.heap.size w w9 := hB.trans (k9.below1 (by omega) hB.size)))
        refine bodyPost_ret (w := w9) (v := .agg Pl.zero.arr) (ret_one rfl rfl b9 Try.underlying27 rfl sizePl) rfl ⟨rfl, hB9⟩

end Go.Proofs.Ytchkpgncelbhpaa
