/-
  two daemons that go from one configuration to the same next one were told the same frames in it, whatever happened in between
  For every play, of at most 150 deeds.
-/
import Derived.Test.YthgfpdidilolgaaGreatRows
import Derived.Test.YthgfpdidilolgaaGreatClXX
import Derived.WalkKit
import Derived.ProofKit
import Derived.OpenShut
import Derived.ShutString
import Derived.SizedLaws
import Derived.ChangeOld
import Derived.Below
namespace Go.Proofs.YthgfpdidilolgaaGreat.clusterSame
open Go.Sort Go.ChangeShapes Go.WideShapes Go.ChangeAt Go.RowKit
open Go.ChangeMaps (open_string shut_string)
set_option linter.unusedVariables false
set_option linter.unusedSimpArgs false
set_option maxRecDepth 10000
theorem own : ownKnob Tryz.prog.godebug = none := by kernel_rfl
theorem length_bytes (s : ByteArray) : s.data.toList.length = s.size := by rw [Array.length_toList]; rfl
theorem and7 (d : Nat) (h : d < 8) : bits .and .i64 (d : Int) 7 = (d : Int) := by
 have : d = 0 ∨ d = 1 ∨ d = 2 ∨ d = 3 ∨ d = 4 ∨ d = 5 ∨ d = 6 ∨ d = 7 := by omega
 rcases this with rfl | rfl | rfl | rfl | rfl | rfl | rfl | rfl <;> decide
set_option maxHeartbeats 16000000 in
theorem walk (pn pw : Int) (D : List De) (da : Option Addr) (dc : Nat) (hDc : D.length ≤ dc) (hDm : dc ≤ maxLen) (hDo : ∀ d ∈ D, d.ok) (w : World) (hD : Li De.vals 0 da D w) :
  Calls Tryz.prog 6 #[.agg (plv pn pw (.slice da D.length dc))] w fun e w' => e = .returned (.bool true) ∧ Below w.heap.size w w' := by
 have hDm2 : D.length ≤ 9223372036854775807 := Nat.le_trans hDc hDm
 cases hbeg : begB pn pw with
 | false =>
  have pP := played_no pn pw (.slice da D.length dc) hbeg
  obtain ⟨v, ev⟩ : ∃ v, Hid (plv pn pw (.slice da D.length dc) = v) := ⟨_, rfl⟩
  have hv : (Tryz.prog.info? 24).map (·.size) = some v.size := by rw [← ev.out]; exact sizePy
  rw [ev.out] at pP ⊢
  have b0 := blk_new w v 24
  have hB := below_box w (.cells v 24)
  clear ev hD hDo
  go_enter Tryz.func6, Tryz.ntmps6
  go_upto_region 1 with fail
  generalize w.alloc (Obj.cells v 24) = V at b0 hB ⊢
  go_wp2_with (refine load_blk rfl 24 _ rfl b0 rfl Tryz.underlying24 rfl hv ?_)
  refine (pP _).mono ?_
  rintro r w1 ⟨rfl, hb⟩
  replace hB := hB.trans (hb.mono hB.size)
  have hb2 := below_box w1 (.cells (clc 0 (.slice none 0 0) (.slice none 0 0) (.slice none 0 0)) 29)
  clear pP hb
  go_upto_region 2 with (go_big_may; first | refine alloc_zero zeroCl rfl rfl ?_ | refine store_new rfl 29 _ _ rfl (cells := (clc 0 (.slice none 0 0) (.slice none 0 0) (.slice none 0 0))) rfl rfl sizeCl rfl (clc_one _ _ _ _ _ _ _ _ _ _) ?_)
  try simp only [Act.put, List.setIfInBounds_toArray, List.set_cons_zero, List.set_cons_succ]
  generalize w1.alloc (Obj.cells (clc 0 (.slice none 0 0) (.slice none 0 0) (.slice none 0 0)) 29) = w2 at hb2 ⊢
  replace hB := hB.trans (hb2.mono hB.size)
  go_wp2_with fail
  refine (ufixed_ok _).mono ?_
  rintro r w3 ⟨rfl, hb⟩
  replace hB := hB.trans (hb.mono hB.size)
  clear hb hb2
  go_wp2_with fail
  refine (ufixed_ok _).mono ?_
  rintro r w4 ⟨rfl, hb⟩
  replace hB := hB.trans (hb.mono hB.size)
  clear hb
  go_wp2_with fail
  go_ret
  exact ⟨rfl, hB⟩
 | true =>
  obtain ⟨n, rfl⟩ : ∃ n : Nat, pn = (n : Int) := ⟨pn.toNat, by unfold begB at hbeg; rw [decide_eq_true_eq] at hbeg; omega⟩
  have pP := fun u' hu => played_yes n pw D da dc hbeg u' hu hDc hDm2 hDo
  obtain ⟨v, ev⟩ : ∃ v, Hid (plv (n : Int) pw (.slice da D.length dc) = v) := ⟨_, rfl⟩
  have hv : (Tryz.prog.info? 24).map (·.size) = some v.size := by rw [← ev.out]; exact sizePy
  rw [ev.out] at pP ⊢
  have b0 := blk_new w v 24
  have hB := below_box w (.cells v 24)
  clear ev hDo
  go_enter Tryz.func6, Tryz.ntmps6
  go_upto_region 1 with fail
  generalize w.alloc (Obj.cells v 24) = V at b0 hB ⊢
  go_wp2_with (refine load_blk rfl 24 _ rfl b0 rfl Tryz.underlying24 rfl hv ?_)
  refine (pP _ (hD.below hB)).mono ?_
  rintro r w1 ⟨⟨S, C, ta, tc, rfl, hC1, hC2, ⟨k0, G, hJ⟩, hN6, hT⟩, hb⟩
  replace hB := hB.trans (hb.mono hB.size)
  have hsC : (Tryz.prog.info? 29).map (·.size) = some C.size := by rw [hC1]; exact sizeCl
  have hb2 := below_box w1 (.cells C 29)
  obtain ⟨T, eT⟩ : ∃ T, Hid (S.t = T) := ⟨_, rfl⟩
  rw [eT.out] at hT hN6 ⊢
  obtain ⟨N, eN⟩ : ∃ N, Hid (T.length = N) := ⟨_, rfl⟩
  rw [eN.out] at hN6 ⊢
  obtain ⟨hN6, hNc⟩ := hN6
  have hn8 := hJ.n8
  have HG : Hid (GI n G T) := by
   have := hJ.g
   rw [eT.out] at this
   exact this
  clear pP hb hJ eT hD hDc hDm hDm2 b0 hbeg hv
  go_upto_region 2 with (go_big_may; first | refine alloc_zero zeroCl rfl rfl ?_ | refine store_new rfl 29 _ _ rfl (cells := C) rfl rfl hsC hC1.symm hC2 ?_)
  try simp only [Act.put, List.setIfInBounds_toArray, List.set_cons_zero, List.set_cons_succ]
  generalize w1.alloc (Obj.cells C 29) = w2 at hb2 ⊢
  replace hB := hB.trans (hb2.mono hB.size)
  replace hT := (hT.below hb2).mono (Nat.zero_le _)
  go_wp2_with fail
  refine (ufixed_ok _).mono ?_
  rintro r w3 ⟨rfl, hb⟩
  replace hB := hB.trans (hb.mono hB.size)
  replace hT := hT.below hb
  clear hb hb2 hC1 hC2 hsC
  go_wp2_with fail
  go_loopw [6] (fun iv wr => ∃ i : Nat, i ≤ N ∧ iv = .int .i64 i ∧ Li Td.vals 0 ta T wr ∧ Below w.heap.size w wr) (fun iv _ => N - (intOf iv).toNat)
  case atStart => exact ⟨0, by omega, rfl, hT, hB⟩
  case round =>
   clear hT hB
   obtain ⟨i, hi, rfl, hT, hB⟩ := hrel
   by_cases hin : i < N
   ·have i0 : (i : Int) < (N : Int) := by omega
    have i1 : (0 : Int) ≤ (i : Int) := by omega
    have i2 : (i : Int) + 1 < 1000 := by omega
    obtain ⟨a, ha⟩ : ∃ a, T[i]? = some a := ⟨_, List.getElem?_eq_getElem (by rw [eN.out]; exact hin)⟩
    have ham : Hid (a ∈ T) := List.mem_of_getElem? ha
    obtain ⟨bt, of, rfl, _, hbl, hr⟩ := hT.at Td.vals_length i a ha
    have hb := below_box wr (.cells a.arr 59)
    have b7 := blk_new wr a.arr 59
    go_upto_region 8 with (go_big_may; first | refine load_range rfl 59 _ rfl (o := of + i * 55) a.vals hr rfl Tryz.underlying59 rfl sizeTd ?_ | refine alloc_zero zeroTd rfl rfl ?_ | refine store_new rfl 59 _ _ rfl (cells := a.arr) rfl rfl sizeTd rfl a.arr_one ?_)
    try simp only [Act.put, List.setIfInBounds_toArray, List.set_cons_zero, List.set_cons_succ]
    generalize wr.alloc (Obj.cells a.arr 59) = W5 at b7 hb ⊢
    replace hT := hT.below hb
    replace hB := hB.trans (hb.mono hB.size)
    clear hr hbl hb ha
    generalize wr.heap.size = ya at b7 ⊢
    cases hv : a.h.view with
    | false =>
     have c5 : W5.cell? ⟨ya, 5, none⟩ = some (.bool false) := by rw [← hv]; exact b7.cell 5 _ rfl
     go_wp2_with fail
     exact ⟨⟨i + 1, by omega, by go_num, hT, hB⟩, by simp [intOf]; omega⟩
    | true =>
     have c5 : W5.cell? ⟨ya, 5, none⟩ = some (.bool true) := by rw [← hv]; exact b7.cell 5 _ rfl
     go_wp2_with fail
     clear c5
     go_loopw [8] (fun kv wr => ∃ k : Nat, k ≤ i ∧ kv = .int .i64 k ∧ Blk ya a.arr 59 wr ∧ Li Td.vals 0 (some ⟨bt, of, none⟩) T wr ∧ Below w.heap.size w wr) (fun kv _ => i - (intOf kv).toNat)
     case atStart => exact ⟨0, by omega, rfl, b7, hT, hB⟩
     case round =>
      clear hT hB b7
      obtain ⟨k, hk, rfl, b7, hT, hB⟩ := hrel
      by_cases hki : k < i
      ·have k0 : (k : Int) < (i : Int) := by omega
       have k1 : (0 : Int) ≤ (k : Int) := by omega
       have k2 : (k : Int) < (N : Int) := by omega
       obtain ⟨b, hb⟩ : ∃ b, T[k]? = some b := ⟨_, List.getElem?_eq_getElem (by rw [eN.out]; omega)⟩
       have hbm : Hid (b ∈ T) := List.mem_of_getElem? hb
       have hr2 := hT.rng Td.vals_length k b hb
       have hb5 := below_box wr (.cells b.arr 59)
       have b9 := blk_new wr b.arr 59
       have hfr : ∀ t ∈ T, t.h.view = false → ∃ q, q < 8 ∧ t.h.k.fr = ((q : Nat) : Int) := fun t ht => (HG.out.ta t ht).fr
       have pA := fun u hu => counts_ok T (some ⟨bt, of, none⟩) tc a.who a.inc a.inn (by rw [eN.out]; omega) hfr u hu
       have pB := fun u hu => counts_ok T (some ⟨bt, of, none⟩) tc b.who b.inc b.inn (by rw [eN.out]; omega) hfr u hu
       rw [eN.out] at pA pB
       have hsame := fun h1 h2 h3 => cnt_same HG.out ham.out hbm.out hv h1 h2 h3
       obtain ⟨Ka, hKa⟩ : ∃ K, Hid ((fun q => cnt T a.who a.inc a.inn q) = K) := ⟨_, rfl⟩
       obtain ⟨Kb, hKb⟩ : ∃ K, Hid ((fun q => cnt T b.who b.inc b.inn q) = K) := ⟨_, rfl⟩
       rw [hKa.out] at pA hsame
       rw [hKb.out] at pB hsame
       go_upto_region 13 with (go_big_may; first | refine load_range rfl 59 _ rfl (o := of + k * 55) b.vals hr2 rfl Tryz.underlying59 rfl sizeTd ?_ | refine alloc_zero zeroTd rfl rfl ?_ | refine store_new rfl 59 _ _ rfl (cells := b.arr) rfl rfl sizeTd rfl b.arr_one ?_)
       try simp only [Act.put, List.setIfInBounds_toArray, List.set_cons_zero, List.set_cons_succ]
       generalize wr.alloc (Obj.cells b.arr 59) = W6 at b9 hb5 ⊢
       replace b7 := b7.below hb5
       replace hT := hT.below hb5
       replace hB := hB.trans (hb5.mono hB.size)
       clear hr2 hb5 hb hfr
       generalize wr.heap.size = yb at b9 ⊢
       obtain ⟨sI, hsI⟩ : ∃ s, Idn.same b.inn a.inn = s := ⟨_, rfl⟩
       obtain ⟨sC, hsC⟩ : ∃ s, Idn.same b.h.conf a.h.conf = s := ⟨_, rfl⟩
       have kI : ∀ w, (binOp .eql 51 (.agg b.inn.vals.toArray) (.agg a.inn.vals.toArray)).run Tryz.prog w = .ok (.bool sI) w := eqlIdn _ _ sI hsI
       have kC : ∀ w, (binOp .eql 51 (.agg b.h.conf.vals.toArray) (.agg a.h.conf.vals.toArray)).run Tryz.prog w = .ok (.bool sC) w := eqlIdn _ _ sC hsC
       cases hvb : b.h.view with
       | false =>
        have hvb9 : b.arr[5]? = some (.bool false) := by rw [← hvb]; rfl
        clear hsame kI kC hsI hsC pA pB hvb
        refine wp_region_held_drew (S := fun w' => Blk ya a.arr 59 w' ∧ Blk yb b.arr 59 w' ∧ Below W6.heap.size W6 w') (by kernel_rfl) ⟨b7.drew, b9.drew, (Below.refl _ _).drew⟩ (fun hHeld => ?_)
        refine tkH 0 (v := ?v1) rfl (by kernel_rfl) (fun _ _ _ h => h) (Or.inl ⟨by rfl, ?hy1⟩) hHeld ?_
        case hy1 => (intro w hSw; clear hSw; go_simp; try with_reducible rfl)
        try simp only [yA, yB, yC, Act.put, yD, yE, yF]
        refine tkH 1 (v := ?v2) rfl (by kernel_rfl) (fun _ _ _ h => h) (Or.inl ⟨by rfl, ?hy2⟩) hHeld ?_
        case hy2 => (intro w hSw; clear hSw; go_simp; try with_reducible rfl)
        try simp only [yA, yB, yC, Act.put, yD, yE, yF]
        refine tkH 2 (v := ?v3) rfl (by kernel_rfl) (fun _ _ _ h => h) (Or.inl ⟨by rfl, ?hy3⟩) hHeld ?_
        case hy3 => (intro w hSw; have hc := hSw.2.1.cell 5 (.bool false) hvb9; clear hSw; go_simp; try with_reducible rfl)
        try simp only [yA, yB, yC, Act.put, yD, yE, yF]
        refine tkH 3 (v := ?v4) rfl (by kernel_rfl) (fun _ _ _ h => h) (Or.inl ⟨by rfl, ?hy4⟩) hHeld ?_
        case hy4 => (intro w hSw; clear hSw; go_simp; try with_reducible rfl)
        try simp only [yA, yB, yC, Act.put, yD, yE, yF]
        refine tkH 4 (v := undef) rfl (by kernel_rfl) (fun _ _ _ h => h) (Or.inr ⟨by rfl, rfl⟩) hHeld ?_
        try simp only [yA, yB, yC, Act.put, yD, yE, yF]
        refine tkH 5 (v := undef) rfl (by kernel_rfl) (fun _ _ _ h => h) (Or.inr ⟨by rfl, rfl⟩) hHeld ?_
        try simp only [yA, yB, yC, Act.put, yD, yE, yF]
        refine tkH 6 (v := undef) rfl (by kernel_rfl) (fun _ _ _ h => h) (Or.inr ⟨by rfl, rfl⟩) hHeld ?_
        try simp only [yA, yB, yC, Act.put, yD, yE, yF]
        refine tkH 7 (v := undef) rfl (by kernel_rfl) (fun _ _ _ h => h) (Or.inr ⟨by rfl, rfl⟩) hHeld ?_
        try simp only [yA, yB, yC, Act.put, yD, yE, yF]
        refine tkH 8 (v := undef) rfl (by kernel_rfl) (fun _ _ _ h => h) (Or.inr ⟨by rfl, rfl⟩) hHeld ?_
        try simp only [yA, yB, yC, Act.put, yD, yE, yF]
        refine tkH 9 (v := ?v10) rfl (by kernel_rfl) (fun _ _ _ h => h) (Or.inl ⟨by rfl, ?hy10⟩) hHeld ?_
        case hy10 => (intro w hSw; clear hSw; go_simp; try with_reducible rfl)
        try simp only [yA, yB, yC, Act.put, yD, yE, yF]
        refine tkH 10 (v := ?v11) rfl (by kernel_rfl) (fun _ _ _ h => h) (Or.inl ⟨by rfl, ?hy11⟩) hHeld ?_
        case hy11 => (intro w hSw; clear hSw; go_simp; try with_reducible rfl)
        try simp only [yA, yB, yC, Act.put, yD, yE, yF]
        refine tkH 11 (v := undef) rfl (by kernel_rfl) (fun _ _ _ h => h) (Or.inr ⟨by rfl, rfl⟩) hHeld ?_
        try simp only [yA, yB, yC, Act.put, yD, yE, yF]
        refine tkH 12 (v := undef) rfl (by kernel_rfl) (fun _ _ _ h => h) (Or.inr ⟨by rfl, rfl⟩) hHeld ?_
        try simp only [yA, yB, yC, Act.put, yD, yE, yF]
        refine tkH 13 (v := undef) rfl (by kernel_rfl) (fun _ _ _ h => h) (Or.inr ⟨by rfl, rfl⟩) hHeld ?_
        try simp only [yA, yB, yC, Act.put, yD, yE, yF]
        refine tkH 14 (v := undef) rfl (by kernel_rfl) (fun _ _ _ h => h) (Or.inr ⟨by rfl, rfl⟩) hHeld ?_
        try simp only [yA, yB, yC, Act.put, yD, yE, yF]
        refine tkH 15 (v := undef) rfl (by kernel_rfl) (fun _ _ _ h => h) (Or.inr ⟨by rfl, rfl⟩) hHeld ?_
        try simp only [yA, yB, yC, Act.put, yD, yE, yF]
        refine tkH 16 (v := undef) rfl (by kernel_rfl) (fun _ _ _ h => h) (Or.inr ⟨by rfl, rfl⟩) hHeld ?_
        try simp only [yA, yB, yC, Act.put, yD, yE, yF]
        refine tkH 17 (v := undef) rfl (by kernel_rfl) (fun _ _ _ h => h) (Or.inr ⟨by rfl, rfl⟩) hHeld ?_
        try simp only [yA, yB, yC, Act.put, yD, yE, yF]
        refine tkH 18 (v := ?v19) rfl (by kernel_rfl) (fun _ _ _ h => h) (Or.inl ⟨by rfl, ?hy19⟩) hHeld ?_
        case hy19 => (intro w hSw; clear hSw; go_simp; try with_reducible rfl)
        try simp only [yA, yB, yC, Act.put, yD, yE, yF]
        refine tkH 19 (v := ?v20) rfl (by kernel_rfl) (fun _ _ _ h => h) (Or.inl ⟨by rfl, ?hy20⟩) hHeld ?_
        case hy20 => (intro w hSw; clear hSw; go_simp; try with_reducible rfl)
        try simp only [yA, yB, yC, Act.put, yD, yE, yF]
        refine tkH 20 (v := undef) rfl (by kernel_rfl) (fun _ _ _ h => h) (Or.inr ⟨by rfl, rfl⟩) hHeld ?_
        try simp only [yA, yB, yC, Act.put, yD, yE, yF]
        refine tkH 21 (v := undef) rfl (by kernel_rfl) (fun _ _ _ h => h) (Or.inr ⟨by rfl, rfl⟩) hHeld ?_
        try simp only [yA, yB, yC, Act.put, yD, yE, yF]
        refine tkH 22 (v := undef) rfl (by kernel_rfl) (fun _ _ _ h => h) (Or.inr ⟨by rfl, rfl⟩) hHeld ?_
        try simp only [yA, yB, yC, Act.put, yD, yE, yF]
        refine tkH 23 (v := undef) rfl (by kernel_rfl) (fun _ _ _ h => h) (Or.inr ⟨by rfl, rfl⟩) hHeld ?_
        try simp only [yA, yB, yC, Act.put, yD, yE, yF]
        refine tkH 24 (v := undef) rfl (by kernel_rfl) (fun _ _ _ h => h) (Or.inr ⟨by rfl, rfl⟩) hHeld ?_
        try simp only [yA, yB, yC, Act.put, yD, yE, yF]
        refine tkH 25 (v := undef) rfl (by kernel_rfl) (fun _ _ _ h => h) (Or.inr ⟨by rfl, rfl⟩) hHeld ?_
        try simp only [yA, yB, yC, Act.put, yD, yE, yF]
        refine tkH 26 (v := undef) rfl (by kernel_rfl) (fun _ _ _ h => h) (Or.inr ⟨by rfl, rfl⟩) hHeld ?_
        try simp only [yA, yB, yC, Act.put, yD, yE, yF]
        refine tkH 27 (v := undef) rfl (by kernel_rfl) (fun _ _ _ h => h) (Or.inr ⟨by rfl, rfl⟩) hHeld ?_
        try simp only [yA, yB, yC, Act.put, yD, yE, yF]
        refine tkH 28 (v := undef) rfl (by kernel_rfl) (fun _ _ _ h => h) (Or.inr ⟨by rfl, rfl⟩) hHeld ?_
        try simp only [yA, yB, yC, Act.put, yD, yE, yF]
        refine tkH 29 (v := undef) rfl (by kernel_rfl) (fun _ _ _ h => h) (Or.inr ⟨by rfl, rfl⟩) hHeld ?_
        try simp only [yA, yB, yC, Act.put, yD, yE, yF]
        refine tkH 30 (v := undef) rfl (by kernel_rfl) (fun _ _ _ h => h) (Or.inr ⟨by rfl, rfl⟩) hHeld ?_
        try simp only [yA, yB, yC, Act.put, yD, yE, yF]
        refine tkH 31 (v := undef) rfl (by kernel_rfl) (fun _ _ _ h => h) (Or.inr ⟨by rfl, rfl⟩) hHeld ?_
        try simp only [yA, yB, yC, Act.put, yD, yE, yF]
        refine tkH 32 (v := undef) rfl (by kernel_rfl) (fun _ _ _ h => h) (Or.inr ⟨by rfl, rfl⟩) hHeld ?_
        try simp only [yA, yB, yC, Act.put, yD, yE, yF]
        refine tkH 33 (v := undef) rfl (by kernel_rfl) (fun _ _ _ h => h) (Or.inr ⟨by rfl, rfl⟩) hHeld ?_
        try simp only [yA, yB, yC, Act.put, yD, yE, yF]
        refine tkH 34 (v := undef) rfl (by kernel_rfl) (fun _ _ _ h => h) (Or.inr ⟨by rfl, rfl⟩) hHeld ?_
        try simp only [yA, yB, yC, Act.put, yD, yE, yF]
        refine tkH 35 (v := undef) rfl (by kernel_rfl) (fun _ _ _ h => h) (Or.inr ⟨by rfl, rfl⟩) hHeld ?_
        try simp only [yA, yB, yC, Act.put, yD, yE, yF]
        refine tkH 36 (v := undef) rfl (by kernel_rfl) (fun _ _ _ h => h) (Or.inr ⟨by rfl, rfl⟩) hHeld ?_
        try simp only [yA, yB, yC, Act.put, yD, yE, yF]
        refine tkH 37 (v := ?v38) rfl (by kernel_rfl) (fun _ _ _ h => h) (Or.inl ⟨by rfl, ?hy38⟩) hHeld ?_
        case hy38 => (intro w hSw; clear hSw; go_simp; try with_reducible rfl)
        try simp only [yA, yB, yC, Act.put, yD, yE, yF]
        refine wpAnyH_done (by kernel_rfl) ?_ _
        replace hT := hT.below hHeld.2.2
        replace hB := hB.trans (hHeld.2.2.mono hB.size)
        replace b7 := hHeld.1
        clear hHeld
        go_wp2_with fail
        exact ⟨⟨k + 1, by omega, by go_num, b7, hT, hB⟩, by simp [intOf]; omega⟩
       | true =>
        have hvb9 : b.arr[5]? = some (.bool true) := by rw [← hvb]; rfl
        cases sI with
        | false =>
         clear hsame kC hsI hsC pA pB hvb
         refine wp_region_held_drew (S := fun w' => Blk ya a.arr 59 w' ∧ Blk yb b.arr 59 w' ∧ Below W6.heap.size W6 w') (by kernel_rfl) ⟨b7.drew, b9.drew, (Below.refl _ _).drew⟩ (fun hHeld => ?_)
         refine tkH 0 (v := ?v39) rfl (by kernel_rfl) (fun _ _ _ h => h) (Or.inl ⟨by rfl, ?hy39⟩) hHeld ?_
         case hy39 => (intro w hSw; clear hSw; go_simp; try with_reducible rfl)
         try simp only [yA, yB, yC, Act.put, yD, yE, yF]
         refine tkH 1 (v := ?v40) rfl (by kernel_rfl) (fun _ _ _ h => h) (Or.inl ⟨by rfl, ?hy40⟩) hHeld ?_
         case hy40 => (intro w hSw; clear hSw; go_simp; try with_reducible rfl)
         try simp only [yA, yB, yC, Act.put, yD, yE, yF]
         refine tkH 2 (v := ?v41) rfl (by kernel_rfl) (fun _ _ _ h => h) (Or.inl ⟨by rfl, ?hy41⟩) hHeld ?_
         case hy41 => (intro w hSw; have hc := hSw.2.1.cell 5 (.bool true) hvb9; clear hSw; go_simp; try with_reducible rfl)
         try simp only [yA, yB, yC, Act.put, yD, yE, yF]
         refine tkH 3 (v := ?v42) rfl (by kernel_rfl) (fun _ _ _ h => h) (Or.inl ⟨by rfl, ?hy42⟩) hHeld ?_
         case hy42 => (intro w hSw; clear hSw; go_simp; try with_reducible rfl)
         try simp only [yA, yB, yC, Act.put, yD, yE, yF]
         refine tkH 4 (v := ?v43) rfl (by kernel_rfl) (fun _ _ _ h => h) (Or.inl ⟨by rfl, ?hy43⟩) hHeld ?_
         case hy43 => (intro w hSw; clear hSw; go_simp; try with_reducible rfl)
         try simp only [yA, yB, yC, Act.put, yD, yE, yF]
         refine' tkH 5 (v := _) rfl (by kernel_rfl) (fun _ _ _ h => h) (yieldsIf_load_mid (by rfl) _ _ rfl yb 2 rfl b.inn.vals _ ?hS44 Tryz.underlying51 rfl sizeIdn) hHeld ?_
         case hS44 => exact fun w h => h.2.1.range 2 _ (Td.p_in b)
         try simp only [yA, yB, yC, Act.put, yD, yE, yF]
         refine tkH 6 (v := ?v45) rfl (by kernel_rfl) (fun _ _ _ h => h) (Or.inl ⟨by rfl, ?hy45⟩) hHeld ?_
         case hy45 => (intro w hSw; clear hSw; go_simp; try with_reducible rfl)
         try simp only [yA, yB, yC, Act.put, yD, yE, yF]
         refine' tkH 7 (v := _) rfl (by kernel_rfl) (fun _ _ _ h => h) (yieldsIf_load_mid (by rfl) _ _ rfl ya 2 rfl a.inn.vals _ ?hS46 Tryz.underlying51 rfl sizeIdn) hHeld ?_
         case hS46 => exact fun w h => h.1.range 2 _ (Td.p_in a)
         try simp only [yA, yB, yC, Act.put, yD, yE, yF]
         refine tkH 8 (v := ?v47) rfl (by kernel_rfl) (fun _ _ _ h => h) (Or.inl ⟨by rfl, ?hy47⟩) hHeld ?_
         case hy47 => (intro w hSw; clear hSw; go_simp; try with_reducible rfl)
         try simp only [yA, yB, yC, Act.put, yD, yE, yF]
         refine tkH 9 (v := ?v48) rfl (by kernel_rfl) (fun _ _ _ h => h) (Or.inl ⟨by rfl, ?hy48⟩) hHeld ?_
         case hy48 => (intro w hSw; clear hSw; go_simp; try with_reducible rfl)
         try simp only [yA, yB, yC, Act.put, yD, yE, yF]
         refine tkH 10 (v := ?v49) rfl (by kernel_rfl) (fun _ _ _ h => h) (Or.inl ⟨by rfl, ?hy49⟩) hHeld ?_
         case hy49 => (intro w hSw; clear hSw; go_simp; try with_reducible rfl)
         try simp only [yA, yB, yC, Act.put, yD, yE, yF]
         refine tkH 11 (v := undef) rfl (by kernel_rfl) (fun _ _ _ h => h) (Or.inr ⟨by rfl, rfl⟩) hHeld ?_
         try simp only [yA, yB, yC, Act.put, yD, yE, yF]
         refine tkH 12 (v := undef) rfl (by kernel_rfl) (fun _ _ _ h => h) (Or.inr ⟨by rfl, rfl⟩) hHeld ?_
         try simp only [yA, yB, yC, Act.put, yD, yE, yF]
         refine tkH 13 (v := undef) rfl (by kernel_rfl) (fun _ _ _ h => h) (Or.inr ⟨by rfl, rfl⟩) hHeld ?_
         try simp only [yA, yB, yC, Act.put, yD, yE, yF]
         refine tkH 14 (v := undef) rfl (by kernel_rfl) (fun _ _ _ h => h) (Or.inr ⟨by rfl, rfl⟩) hHeld ?_
         try simp only [yA, yB, yC, Act.put, yD, yE, yF]
         refine tkH 15 (v := undef) rfl (by kernel_rfl) (fun _ _ _ h => h) (Or.inr ⟨by rfl, rfl⟩) hHeld ?_
         try simp only [yA, yB, yC, Act.put, yD, yE, yF]
         refine tkH 16 (v := undef) rfl (by kernel_rfl) (fun _ _ _ h => h) (Or.inr ⟨by rfl, rfl⟩) hHeld ?_
         try simp only [yA, yB, yC, Act.put, yD, yE, yF]
         refine tkH 17 (v := undef) rfl (by kernel_rfl) (fun _ _ _ h => h) (Or.inr ⟨by rfl, rfl⟩) hHeld ?_
         try simp only [yA, yB, yC, Act.put, yD, yE, yF]
         refine tkH 18 (v := ?v57) rfl (by kernel_rfl) (fun _ _ _ h => h) (Or.inl ⟨by rfl, ?hy57⟩) hHeld ?_
         case hy57 => (intro w hSw; clear hSw; go_simp; try with_reducible rfl)
         try simp only [yA, yB, yC, Act.put, yD, yE, yF]
         refine tkH 19 (v := ?v58) rfl (by kernel_rfl) (fun _ _ _ h => h) (Or.inl ⟨by rfl, ?hy58⟩) hHeld ?_
         case hy58 => (intro w hSw; clear hSw; go_simp; try with_reducible rfl)
         try simp only [yA, yB, yC, Act.put, yD, yE, yF]
         refine tkH 20 (v := undef) rfl (by kernel_rfl) (fun _ _ _ h => h) (Or.inr ⟨by rfl, rfl⟩) hHeld ?_
         try simp only [yA, yB, yC, Act.put, yD, yE, yF]
         refine tkH 21 (v := undef) rfl (by kernel_rfl) (fun _ _ _ h => h) (Or.inr ⟨by rfl, rfl⟩) hHeld ?_
         try simp only [yA, yB, yC, Act.put, yD, yE, yF]
         refine tkH 22 (v := undef) rfl (by kernel_rfl) (fun _ _ _ h => h) (Or.inr ⟨by rfl, rfl⟩) hHeld ?_
         try simp only [yA, yB, yC, Act.put, yD, yE, yF]
         refine tkH 23 (v := undef) rfl (by kernel_rfl) (fun _ _ _ h => h) (Or.inr ⟨by rfl, rfl⟩) hHeld ?_
         try simp only [yA, yB, yC, Act.put, yD, yE, yF]
         refine tkH 24 (v := undef) rfl (by kernel_rfl) (fun _ _ _ h => h) (Or.inr ⟨by rfl, rfl⟩) hHeld ?_
         try simp only [yA, yB, yC, Act.put, yD, yE, yF]
         refine tkH 25 (v := undef) rfl (by kernel_rfl) (fun _ _ _ h => h) (Or.inr ⟨by rfl, rfl⟩) hHeld ?_
         try simp only [yA, yB, yC, Act.put, yD, yE, yF]
         refine tkH 26 (v := undef) rfl (by kernel_rfl) (fun _ _ _ h => h) (Or.inr ⟨by rfl, rfl⟩) hHeld ?_
         try simp only [yA, yB, yC, Act.put, yD, yE, yF]
         refine tkH 27 (v := undef) rfl (by kernel_rfl) (fun _ _ _ h => h) (Or.inr ⟨by rfl, rfl⟩) hHeld ?_
         try simp only [yA, yB, yC, Act.put, yD, yE, yF]
         refine tkH 28 (v := undef) rfl (by kernel_rfl) (fun _ _ _ h => h) (Or.inr ⟨by rfl, rfl⟩) hHeld ?_
         try simp only [yA, yB, yC, Act.put, yD, yE, yF]
         refine tkH 29 (v := undef) rfl (by kernel_rfl) (fun _ _ _ h => h) (Or.inr ⟨by rfl, rfl⟩) hHeld ?_
         try simp only [yA, yB, yC, Act.put, yD, yE, yF]
         refine tkH 30 (v := undef) rfl (by kernel_rfl) (fun _ _ _ h => h) (Or.inr ⟨by rfl, rfl⟩) hHeld ?_
         try simp only [yA, yB, yC, Act.put, yD, yE, yF]
         refine tkH 31 (v := undef) rfl (by kernel_rfl) (fun _ _ _ h => h) (Or.inr ⟨by rfl, rfl⟩) hHeld ?_
         try simp only [yA, yB, yC, Act.put, yD, yE, yF]
         refine tkH 32 (v := undef) rfl (by kernel_rfl) (fun _ _ _ h => h) (Or.inr ⟨by rfl, rfl⟩) hHeld ?_
         try simp only [yA, yB, yC, Act.put, yD, yE, yF]
         refine tkH 33 (v := undef) rfl (by kernel_rfl) (fun _ _ _ h => h) (Or.inr ⟨by rfl, rfl⟩) hHeld ?_
         try simp only [yA, yB, yC, Act.put, yD, yE, yF]
         refine tkH 34 (v := undef) rfl (by kernel_rfl) (fun _ _ _ h => h) (Or.inr ⟨by rfl, rfl⟩) hHeld ?_
         try simp only [yA, yB, yC, Act.put, yD, yE, yF]
         refine tkH 35 (v := undef) rfl (by kernel_rfl) (fun _ _ _ h => h) (Or.inr ⟨by rfl, rfl⟩) hHeld ?_
         try simp only [yA, yB, yC, Act.put, yD, yE, yF]
         refine tkH 36 (v := undef) rfl (by kernel_rfl) (fun _ _ _ h => h) (Or.inr ⟨by rfl, rfl⟩) hHeld ?_
         try simp only [yA, yB, yC, Act.put, yD, yE, yF]
         refine tkH 37 (v := ?v76) rfl (by kernel_rfl) (fun _ _ _ h => h) (Or.inl ⟨by rfl, ?hy76⟩) hHeld ?_
         case hy76 => (intro w hSw; clear hSw; go_simp; try with_reducible rfl)
         try simp only [yA, yB, yC, Act.put, yD, yE, yF]
         refine wpAnyH_done (by kernel_rfl) ?_ _
         replace hT := hT.below hHeld.2.2
         replace hB := hB.trans (hHeld.2.2.mono hB.size)
         replace b7 := hHeld.1
         clear hHeld
         go_wp2_with fail
         exact ⟨⟨k + 1, by omega, by go_num, b7, hT, hB⟩, by simp [intOf]; omega⟩
        | true =>
         cases sC with
         | false =>
          clear hsame hsI hsC pA pB hvb
          refine wp_region_held_drew (S := fun w' => Blk ya a.arr 59 w' ∧ Blk yb b.arr 59 w' ∧ Below W6.heap.size W6 w') (by kernel_rfl) ⟨b7.drew, b9.drew, (Below.refl _ _).drew⟩ (fun hHeld => ?_)
          refine tkH 0 (v := ?v77) rfl (by kernel_rfl) (fun _ _ _ h => h) (Or.inl ⟨by rfl, ?hy77⟩) hHeld ?_
          case hy77 => (intro w hSw; clear hSw; go_simp; try with_reducible rfl)
          try simp only [yA, yB, yC, Act.put, yD, yE, yF]
          refine tkH 1 (v := ?v78) rfl (by kernel_rfl) (fun _ _ _ h => h) (Or.inl ⟨by rfl, ?hy78⟩) hHeld ?_
          case hy78 => (intro w hSw; clear hSw; go_simp; try with_reducible rfl)
          try simp only [yA, yB, yC, Act.put, yD, yE, yF]
          refine tkH 2 (v := ?v79) rfl (by kernel_rfl) (fun _ _ _ h => h) (Or.inl ⟨by rfl, ?hy79⟩) hHeld ?_
          case hy79 => (intro w hSw; have hc := hSw.2.1.cell 5 (.bool true) hvb9; clear hSw; go_simp; try with_reducible rfl)
          try simp only [yA, yB, yC, Act.put, yD, yE, yF]
          refine tkH 3 (v := ?v80) rfl (by kernel_rfl) (fun _ _ _ h => h) (Or.inl ⟨by rfl, ?hy80⟩) hHeld ?_
          case hy80 => (intro w hSw; clear hSw; go_simp; try with_reducible rfl)
          try simp only [yA, yB, yC, Act.put, yD, yE, yF]
          refine tkH 4 (v := ?v81) rfl (by kernel_rfl) (fun _ _ _ h => h) (Or.inl ⟨by rfl, ?hy81⟩) hHeld ?_
          case hy81 => (intro w hSw; clear hSw; go_simp; try with_reducible rfl)
          try simp only [yA, yB, yC, Act.put, yD, yE, yF]
          refine' tkH 5 (v := _) rfl (by kernel_rfl) (fun _ _ _ h => h) (yieldsIf_load_mid (by rfl) _ _ rfl yb 2 rfl b.inn.vals _ ?hS82 Tryz.underlying51 rfl sizeIdn) hHeld ?_
          case hS82 => exact fun w h => h.2.1.range 2 _ (Td.p_in b)
          try simp only [yA, yB, yC, Act.put, yD, yE, yF]
          refine tkH 6 (v := ?v83) rfl (by kernel_rfl) (fun _ _ _ h => h) (Or.inl ⟨by rfl, ?hy83⟩) hHeld ?_
          case hy83 => (intro w hSw; clear hSw; go_simp; try with_reducible rfl)
          try simp only [yA, yB, yC, Act.put, yD, yE, yF]
          refine' tkH 7 (v := _) rfl (by kernel_rfl) (fun _ _ _ h => h) (yieldsIf_load_mid (by rfl) _ _ rfl ya 2 rfl a.inn.vals _ ?hS84 Tryz.underlying51 rfl sizeIdn) hHeld ?_
          case hS84 => exact fun w h => h.1.range 2 _ (Td.p_in a)
          try simp only [yA, yB, yC, Act.put, yD, yE, yF]
          refine tkH 8 (v := ?v85) rfl (by kernel_rfl) (fun _ _ _ h => h) (Or.inl ⟨by rfl, ?hy85⟩) hHeld ?_
          case hy85 => (intro w hSw; clear hSw; go_simp; try with_reducible rfl)
          try simp only [yA, yB, yC, Act.put, yD, yE, yF]
          refine tkH 9 (v := ?v86) rfl (by kernel_rfl) (fun _ _ _ h => h) (Or.inl ⟨by rfl, ?hy86⟩) hHeld ?_
          case hy86 => (intro w hSw; clear hSw; go_simp; try with_reducible rfl)
          try simp only [yA, yB, yC, Act.put, yD, yE, yF]
          refine tkH 10 (v := ?v87) rfl (by kernel_rfl) (fun _ _ _ h => h) (Or.inl ⟨by rfl, ?hy87⟩) hHeld ?_
          case hy87 => (intro w hSw; clear hSw; go_simp; try with_reducible rfl)
          try simp only [yA, yB, yC, Act.put, yD, yE, yF]
          refine tkH 11 (v := ?v88) rfl (by kernel_rfl) (fun _ _ _ h => h) (Or.inl ⟨by rfl, ?hy88⟩) hHeld ?_
          case hy88 => (intro w hSw; clear hSw; go_simp; try with_reducible rfl)
          try simp only [yA, yB, yC, Act.put, yD, yE, yF]
          refine tkH 12 (v := ?v89) rfl (by kernel_rfl) (fun _ _ _ h => h) (Or.inl ⟨by rfl, ?hy89⟩) hHeld ?_
          case hy89 => (intro w hSw; clear hSw; go_simp; try with_reducible rfl)
          try simp only [yA, yB, yC, Act.put, yD, yE, yF]
          refine' tkH 13 (v := _) rfl (by kernel_rfl) (fun _ _ _ h => h) (yieldsIf_load_mid (by rfl) _ _ rfl yb 44 rfl b.h.conf.vals _ ?hS90 Tryz.underlying51 rfl sizeIdn) hHeld ?_
          case hS90 => exact fun w h => h.2.1.range 44 _ (Td.p_conf b)
          try simp only [yA, yB, yC, Act.put, yD, yE, yF]
          refine tkH 14 (v := ?v91) rfl (by kernel_rfl) (fun _ _ _ h => h) (Or.inl ⟨by rfl, ?hy91⟩) hHeld ?_
          case hy91 => (intro w hSw; clear hSw; go_simp; try with_reducible rfl)
          try simp only [yA, yB, yC, Act.put, yD, yE, yF]
          refine tkH 15 (v := ?v92) rfl (by kernel_rfl) (fun _ _ _ h => h) (Or.inl ⟨by rfl, ?hy92⟩) hHeld ?_
          case hy92 => (intro w hSw; clear hSw; go_simp; try with_reducible rfl)
          try simp only [yA, yB, yC, Act.put, yD, yE, yF]
          refine' tkH 16 (v := _) rfl (by kernel_rfl) (fun _ _ _ h => h) (yieldsIf_load_mid (by rfl) _ _ rfl ya 44 rfl a.h.conf.vals _ ?hS93 Tryz.underlying51 rfl sizeIdn) hHeld ?_
          case hS93 => exact fun w h => h.1.range 44 _ (Td.p_conf a)
          try simp only [yA, yB, yC, Act.put, yD, yE, yF]
          refine tkH 17 (v := ?v94) rfl (by kernel_rfl) (fun _ _ _ h => h) (Or.inl ⟨by rfl, ?hy94⟩) hHeld ?_
          case hy94 => (intro w hSw; clear hSw; go_simp; try with_reducible rfl)
          try simp only [yA, yB, yC, Act.put, yD, yE, yF]
          refine tkH 18 (v := ?v95) rfl (by kernel_rfl) (fun _ _ _ h => h) (Or.inl ⟨by rfl, ?hy95⟩) hHeld ?_
          case hy95 => (intro w hSw; clear hSw; go_simp; try with_reducible rfl)
          try simp only [yA, yB, yC, Act.put, yD, yE, yF]
          refine tkH 19 (v := ?v96) rfl (by kernel_rfl) (fun _ _ _ h => h) (Or.inl ⟨by rfl, ?hy96⟩) hHeld ?_
          case hy96 => (intro w hSw; clear hSw; go_simp; try with_reducible rfl)
          try simp only [yA, yB, yC, Act.put, yD, yE, yF]
          refine tkH 20 (v := undef) rfl (by kernel_rfl) (fun _ _ _ h => h) (Or.inr ⟨by rfl, rfl⟩) hHeld ?_
          try simp only [yA, yB, yC, Act.put, yD, yE, yF]
          refine tkH 21 (v := undef) rfl (by kernel_rfl) (fun _ _ _ h => h) (Or.inr ⟨by rfl, rfl⟩) hHeld ?_
          try simp only [yA, yB, yC, Act.put, yD, yE, yF]
          refine tkH 22 (v := undef) rfl (by kernel_rfl) (fun _ _ _ h => h) (Or.inr ⟨by rfl, rfl⟩) hHeld ?_
          try simp only [yA, yB, yC, Act.put, yD, yE, yF]
          refine tkH 23 (v := undef) rfl (by kernel_rfl) (fun _ _ _ h => h) (Or.inr ⟨by rfl, rfl⟩) hHeld ?_
          try simp only [yA, yB, yC, Act.put, yD, yE, yF]
          refine tkH 24 (v := undef) rfl (by kernel_rfl) (fun _ _ _ h => h) (Or.inr ⟨by rfl, rfl⟩) hHeld ?_
          try simp only [yA, yB, yC, Act.put, yD, yE, yF]
          refine tkH 25 (v := undef) rfl (by kernel_rfl) (fun _ _ _ h => h) (Or.inr ⟨by rfl, rfl⟩) hHeld ?_
          try simp only [yA, yB, yC, Act.put, yD, yE, yF]
          refine tkH 26 (v := undef) rfl (by kernel_rfl) (fun _ _ _ h => h) (Or.inr ⟨by rfl, rfl⟩) hHeld ?_
          try simp only [yA, yB, yC, Act.put, yD, yE, yF]
          refine tkH 27 (v := undef) rfl (by kernel_rfl) (fun _ _ _ h => h) (Or.inr ⟨by rfl, rfl⟩) hHeld ?_
          try simp only [yA, yB, yC, Act.put, yD, yE, yF]
          refine tkH 28 (v := undef) rfl (by kernel_rfl) (fun _ _ _ h => h) (Or.inr ⟨by rfl, rfl⟩) hHeld ?_
          try simp only [yA, yB, yC, Act.put, yD, yE, yF]
          refine tkH 29 (v := undef) rfl (by kernel_rfl) (fun _ _ _ h => h) (Or.inr ⟨by rfl, rfl⟩) hHeld ?_
          try simp only [yA, yB, yC, Act.put, yD, yE, yF]
          refine tkH 30 (v := undef) rfl (by kernel_rfl) (fun _ _ _ h => h) (Or.inr ⟨by rfl, rfl⟩) hHeld ?_
          try simp only [yA, yB, yC, Act.put, yD, yE, yF]
          refine tkH 31 (v := undef) rfl (by kernel_rfl) (fun _ _ _ h => h) (Or.inr ⟨by rfl, rfl⟩) hHeld ?_
          try simp only [yA, yB, yC, Act.put, yD, yE, yF]
          refine tkH 32 (v := undef) rfl (by kernel_rfl) (fun _ _ _ h => h) (Or.inr ⟨by rfl, rfl⟩) hHeld ?_
          try simp only [yA, yB, yC, Act.put, yD, yE, yF]
          refine tkH 33 (v := undef) rfl (by kernel_rfl) (fun _ _ _ h => h) (Or.inr ⟨by rfl, rfl⟩) hHeld ?_
          try simp only [yA, yB, yC, Act.put, yD, yE, yF]
          refine tkH 34 (v := undef) rfl (by kernel_rfl) (fun _ _ _ h => h) (Or.inr ⟨by rfl, rfl⟩) hHeld ?_
          try simp only [yA, yB, yC, Act.put, yD, yE, yF]
          refine tkH 35 (v := undef) rfl (by kernel_rfl) (fun _ _ _ h => h) (Or.inr ⟨by rfl, rfl⟩) hHeld ?_
          try simp only [yA, yB, yC, Act.put, yD, yE, yF]
          refine tkH 36 (v := undef) rfl (by kernel_rfl) (fun _ _ _ h => h) (Or.inr ⟨by rfl, rfl⟩) hHeld ?_
          try simp only [yA, yB, yC, Act.put, yD, yE, yF]
          refine tkH 37 (v := ?v114) rfl (by kernel_rfl) (fun _ _ _ h => h) (Or.inl ⟨by rfl, ?hy114⟩) hHeld ?_
          case hy114 => (intro w hSw; clear hSw; go_simp; try with_reducible rfl)
          try simp only [yA, yB, yC, Act.put, yD, yE, yF]
          refine wpAnyH_done (by kernel_rfl) ?_ _
          replace hT := hT.below hHeld.2.2
          replace hB := hB.trans (hHeld.2.2.mono hB.size)
          replace b7 := hHeld.1
          clear hHeld
          go_wp2_with fail
          exact ⟨⟨k + 1, by omega, by go_num, b7, hT, hB⟩, by simp [intOf]; omega⟩
         | true =>
          have kN : ∀ w, (binOp .neq 60 (.agg (mbc Ka)) (.agg (mbc Kb))).run Tryz.prog w = .ok (.bool false) w := neqCt _ _ true (hsame hvb ((Idn.same_iff _ _).1 hsI) ((Idn.same_iff _ _).1 hsC))
          clear hsame hsI hsC hvb
          refine wp_region_held_drew (S := fun w' => Blk ya a.arr 59 w' ∧ Blk yb b.arr 59 w' ∧ Below W6.heap.size W6 w') (by kernel_rfl) ⟨b7.drew, b9.drew, (Below.refl _ _).drew⟩ (fun hHeld => ?_)
          refine tkH 0 (v := ?v115) rfl (by kernel_rfl) (fun _ _ _ h => h) (Or.inl ⟨by rfl, ?hy115⟩) hHeld ?_
          case hy115 => (intro w hSw; clear hSw; go_simp; try with_reducible rfl)
          try simp only [yA, yB, yC, Act.put, yD, yE, yF]
          refine tkH 1 (v := ?v116) rfl (by kernel_rfl) (fun _ _ _ h => h) (Or.inl ⟨by rfl, ?hy116⟩) hHeld ?_
          case hy116 => (intro w hSw; clear hSw; go_simp; try with_reducible rfl)
          try simp only [yA, yB, yC, Act.put, yD, yE, yF]
          refine tkH 2 (v := ?v117) rfl (by kernel_rfl) (fun _ _ _ h => h) (Or.inl ⟨by rfl, ?hy117⟩) hHeld ?_
          case hy117 => (intro w hSw; have hc := hSw.2.1.cell 5 (.bool true) hvb9; clear hSw; go_simp; try with_reducible rfl)
          try simp only [yA, yB, yC, Act.put, yD, yE, yF]
          refine tkH 3 (v := ?v118) rfl (by kernel_rfl) (fun _ _ _ h => h) (Or.inl ⟨by rfl, ?hy118⟩) hHeld ?_
          case hy118 => (intro w hSw; clear hSw; go_simp; try with_reducible rfl)
          try simp only [yA, yB, yC, Act.put, yD, yE, yF]
          refine tkH 4 (v := ?v119) rfl (by kernel_rfl) (fun _ _ _ h => h) (Or.inl ⟨by rfl, ?hy119⟩) hHeld ?_
          case hy119 => (intro w hSw; clear hSw; go_simp; try with_reducible rfl)
          try simp only [yA, yB, yC, Act.put, yD, yE, yF]
          refine' tkH 5 (v := _) rfl (by kernel_rfl) (fun _ _ _ h => h) (yieldsIf_load_mid (by rfl) _ _ rfl yb 2 rfl b.inn.vals _ ?hS120 Tryz.underlying51 rfl sizeIdn) hHeld ?_
          case hS120 => exact fun w h => h.2.1.range 2 _ (Td.p_in b)
          try simp only [yA, yB, yC, Act.put, yD, yE, yF]
          refine tkH 6 (v := ?v121) rfl (by kernel_rfl) (fun _ _ _ h => h) (Or.inl ⟨by rfl, ?hy121⟩) hHeld ?_
          case hy121 => (intro w hSw; clear hSw; go_simp; try with_reducible rfl)
          try simp only [yA, yB, yC, Act.put, yD, yE, yF]
          refine' tkH 7 (v := _) rfl (by kernel_rfl) (fun _ _ _ h => h) (yieldsIf_load_mid (by rfl) _ _ rfl ya 2 rfl a.inn.vals _ ?hS122 Tryz.underlying51 rfl sizeIdn) hHeld ?_
          case hS122 => exact fun w h => h.1.range 2 _ (Td.p_in a)
          try simp only [yA, yB, yC, Act.put, yD, yE, yF]
          refine tkH 8 (v := ?v123) rfl (by kernel_rfl) (fun _ _ _ h => h) (Or.inl ⟨by rfl, ?hy123⟩) hHeld ?_
          case hy123 => (intro w hSw; clear hSw; go_simp; try with_reducible rfl)
          try simp only [yA, yB, yC, Act.put, yD, yE, yF]
          refine tkH 9 (v := ?v124) rfl (by kernel_rfl) (fun _ _ _ h => h) (Or.inl ⟨by rfl, ?hy124⟩) hHeld ?_
          case hy124 => (intro w hSw; clear hSw; go_simp; try with_reducible rfl)
          try simp only [yA, yB, yC, Act.put, yD, yE, yF]
          refine tkH 10 (v := ?v125) rfl (by kernel_rfl) (fun _ _ _ h => h) (Or.inl ⟨by rfl, ?hy125⟩) hHeld ?_
          case hy125 => (intro w hSw; clear hSw; go_simp; try with_reducible rfl)
          try simp only [yA, yB, yC, Act.put, yD, yE, yF]
          refine tkH 11 (v := ?v126) rfl (by kernel_rfl) (fun _ _ _ h => h) (Or.inl ⟨by rfl, ?hy126⟩) hHeld ?_
          case hy126 => (intro w hSw; clear hSw; go_simp; try with_reducible rfl)
          try simp only [yA, yB, yC, Act.put, yD, yE, yF]
          refine tkH 12 (v := ?v127) rfl (by kernel_rfl) (fun _ _ _ h => h) (Or.inl ⟨by rfl, ?hy127⟩) hHeld ?_
          case hy127 => (intro w hSw; clear hSw; go_simp; try with_reducible rfl)
          try simp only [yA, yB, yC, Act.put, yD, yE, yF]
          refine' tkH 13 (v := _) rfl (by kernel_rfl) (fun _ _ _ h => h) (yieldsIf_load_mid (by rfl) _ _ rfl yb 44 rfl b.h.conf.vals _ ?hS128 Tryz.underlying51 rfl sizeIdn) hHeld ?_
          case hS128 => exact fun w h => h.2.1.range 44 _ (Td.p_conf b)
          try simp only [yA, yB, yC, Act.put, yD, yE, yF]
          refine tkH 14 (v := ?v129) rfl (by kernel_rfl) (fun _ _ _ h => h) (Or.inl ⟨by rfl, ?hy129⟩) hHeld ?_
          case hy129 => (intro w hSw; clear hSw; go_simp; try with_reducible rfl)
          try simp only [yA, yB, yC, Act.put, yD, yE, yF]
          refine tkH 15 (v := ?v130) rfl (by kernel_rfl) (fun _ _ _ h => h) (Or.inl ⟨by rfl, ?hy130⟩) hHeld ?_
          case hy130 => (intro w hSw; clear hSw; go_simp; try with_reducible rfl)
          try simp only [yA, yB, yC, Act.put, yD, yE, yF]
          refine' tkH 16 (v := _) rfl (by kernel_rfl) (fun _ _ _ h => h) (yieldsIf_load_mid (by rfl) _ _ rfl ya 44 rfl a.h.conf.vals _ ?hS131 Tryz.underlying51 rfl sizeIdn) hHeld ?_
          case hS131 => exact fun w h => h.1.range 44 _ (Td.p_conf a)
          try simp only [yA, yB, yC, Act.put, yD, yE, yF]
          refine tkH 17 (v := ?v132) rfl (by kernel_rfl) (fun _ _ _ h => h) (Or.inl ⟨by rfl, ?hy132⟩) hHeld ?_
          case hy132 => (intro w hSw; clear hSw; go_simp; try with_reducible rfl)
          try simp only [yA, yB, yC, Act.put, yD, yE, yF]
          refine tkH 18 (v := ?v133) rfl (by kernel_rfl) (fun _ _ _ h => h) (Or.inl ⟨by rfl, ?hy133⟩) hHeld ?_
          case hy133 => (intro w hSw; clear hSw; go_simp; try with_reducible rfl)
          try simp only [yA, yB, yC, Act.put, yD, yE, yF]
          refine tkH 19 (v := ?v134) rfl (by kernel_rfl) (fun _ _ _ h => h) (Or.inl ⟨by rfl, ?hy134⟩) hHeld ?_
          case hy134 => (intro w hSw; clear hSw; go_simp; try with_reducible rfl)
          try simp only [yA, yB, yC, Act.put, yD, yE, yF]
          refine tkH 20 (v := ?v135) rfl (by kernel_rfl) (fun _ _ _ h => h) (Or.inl ⟨by rfl, ?hy135⟩) hHeld ?_
          case hy135 => (intro w hSw; clear hSw; go_simp; try with_reducible rfl)
          try simp only [yA, yB, yC, Act.put, yD, yE, yF]
          refine tkH 21 (v := ?v136) rfl (by kernel_rfl) (fun _ _ _ h => h) (Or.inl ⟨by rfl, ?hy136⟩) hHeld ?_
          case hy136 => (intro w hSw; clear hSw; go_simp; try with_reducible rfl)
          try simp only [yA, yB, yC, Act.put, yD, yE, yF]
          refine tkH 22 (v := ?v137) rfl (by kernel_rfl) (fun _ _ _ h => h) (Or.inl ⟨by rfl, ?hy137⟩) hHeld ?_
          case hy137 => (intro w hSw; have hc := hSw.1.cell 0 (.int .i64 (a.who : Int)) rfl; clear hSw; go_simp; try with_reducible rfl)
          try simp only [yA, yB, yC, Act.put, yD, yE, yF]
          refine tkH 23 (v := ?v138) rfl (by kernel_rfl) (fun _ _ _ h => h) (Or.inl ⟨by rfl, ?hy138⟩) hHeld ?_
          case hy138 => (intro w hSw; clear hSw; go_simp; try with_reducible rfl)
          try simp only [yA, yB, yC, Act.put, yD, yE, yF]
          refine tkH 24 (v := ?v139) rfl (by kernel_rfl) (fun _ _ _ h => h) (Or.inl ⟨by rfl, ?hy139⟩) hHeld ?_
          case hy139 => (intro w hSw; have hc := hSw.1.cell 1 (.int .u32 (a.inc : Int)) rfl; clear hSw; go_simp; try with_reducible rfl)
          try simp only [yA, yB, yC, Act.put, yD, yE, yF]
          refine tkH 25 (v := ?v140) rfl (by kernel_rfl) (fun _ _ _ h => h) (Or.inl ⟨by rfl, ?hy140⟩) hHeld ?_
          case hy140 => (intro w hSw; clear hSw; go_simp; try with_reducible rfl)
          try simp only [yA, yB, yC, Act.put, yD, yE, yF]
          refine' tkH 26 (v := _) rfl (by kernel_rfl) (fun _ _ _ h => h) (yieldsIf_load_mid (by rfl) _ _ rfl ya 2 rfl a.inn.vals _ ?hS141 Tryz.underlying51 rfl sizeIdn) hHeld ?_
          case hS141 => exact fun w h => h.1.range 2 _ (Td.p_in a)
          try simp only [yA, yB, yC, Act.put, yD, yE, yF]
          refine tkH 28 (v := ?v142) rfl (by kernel_rfl) (fun _ _ _ h => h) (Or.inl ⟨by rfl, ?hy142⟩) hHeld ?_
          case hy142 => (intro w hSw; clear hSw; go_simp; try with_reducible rfl)
          try simp only [yA, yB, yC, Act.put, yD, yE, yF]
          refine tkH 29 (v := ?v143) rfl (by kernel_rfl) (fun _ _ _ h => h) (Or.inl ⟨by rfl, ?hy143⟩) hHeld ?_
          case hy143 => (intro w hSw; clear hSw; go_simp; try with_reducible rfl)
          try simp only [yA, yB, yC, Act.put, yD, yE, yF]
          refine tkH 30 (v := ?v144) rfl (by kernel_rfl) (fun _ _ _ h => h) (Or.inl ⟨by rfl, ?hy144⟩) hHeld ?_
          case hy144 => (intro w hSw; have hc := hSw.2.1.cell 0 (.int .i64 (b.who : Int)) rfl; clear hSw; go_simp; try with_reducible rfl)
          try simp only [yA, yB, yC, Act.put, yD, yE, yF]
          refine tkH 31 (v := ?v145) rfl (by kernel_rfl) (fun _ _ _ h => h) (Or.inl ⟨by rfl, ?hy145⟩) hHeld ?_
          case hy145 => (intro w hSw; clear hSw; go_simp; try with_reducible rfl)
          try simp only [yA, yB, yC, Act.put, yD, yE, yF]
          refine tkH 32 (v := ?v146) rfl (by kernel_rfl) (fun _ _ _ h => h) (Or.inl ⟨by rfl, ?hy146⟩) hHeld ?_
          case hy146 => (intro w hSw; have hc := hSw.2.1.cell 1 (.int .u32 (b.inc : Int)) rfl; clear hSw; go_simp; try with_reducible rfl)
          try simp only [yA, yB, yC, Act.put, yD, yE, yF]
          refine tkH 33 (v := ?v147) rfl (by kernel_rfl) (fun _ _ _ h => h) (Or.inl ⟨by rfl, ?hy147⟩) hHeld ?_
          case hy147 => (intro w hSw; clear hSw; go_simp; try with_reducible rfl)
          try simp only [yA, yB, yC, Act.put, yD, yE, yF]
          refine' tkH 34 (v := _) rfl (by kernel_rfl) (fun _ _ _ h => h) (yieldsIf_load_mid (by rfl) _ _ rfl yb 2 rfl b.inn.vals _ ?hS148 Tryz.underlying51 rfl sizeIdn) hHeld ?_
          case hS148 => exact fun w h => h.2.1.range 2 _ (Td.p_in b)
          try simp only [yA, yB, yC, Act.put, yD, yE, yF]
          refine wpAnyH_ready (rs := [27]) (by kernel_rfl) (by simp) ?_
          refine AllReadyH.cons rfl (fun K hK => ?_) (AllReadyH.nil)
          go_simp
          go_wp2_with (refine (pA _ (hT.below hHeld.2.2)).mono ?_; rintro r u1 ⟨rfl, hb⟩)
          refine hK.out _ _ ⟨hHeld.1.below hb, hHeld.2.1.below hb, hHeld.2.2.below hb⟩ (fun hHeld => ?_)
          clear hK K hb 
          refine wpAnyH_ready (rs := [35]) (by kernel_rfl) (by simp) ?_
          refine AllReadyH.cons rfl (fun K hK => ?_) (AllReadyH.nil)
          go_simp
          go_wp2_with (refine (pB _ (hT.below hHeld.2.2)).mono ?_; rintro r u2 ⟨rfl, hb⟩)
          refine hK.out _ _ ⟨hHeld.1.below hb, hHeld.2.1.below hb, hHeld.2.2.below hb⟩ (fun hHeld => ?_)
          clear hK K hb 
          refine tkH 36 (v := ?v149) rfl (by kernel_rfl) (fun _ _ _ h => h) (Or.inl ⟨by rfl, ?hy149⟩) hHeld ?_
          case hy149 => (intro w hSw; clear hSw; go_simp; try with_reducible rfl)
          try simp only [yA, yB, yC, Act.put, yD, yE, yF]
          refine tkH 37 (v := ?v150) rfl (by kernel_rfl) (fun _ _ _ h => h) (Or.inl ⟨by rfl, ?hy150⟩) hHeld ?_
          case hy150 => (intro w hSw; clear hSw; go_simp; try with_reducible rfl)
          try simp only [yA, yB, yC, Act.put, yD, yE, yF]
          refine wpAnyH_done (by kernel_rfl) ?_ _
          replace hT := hT.below hHeld.2.2
          replace hB := hB.trans (hHeld.2.2.mono hB.size)
          replace b7 := hHeld.1
          clear hHeld
          go_wp2_with fail
          exact ⟨⟨k + 1, by omega, by go_num, b7, hT, hB⟩, by simp [intOf]; omega⟩
      ·obtain rfl : k = i := by omega
       go_wp2_with fail
       exact ⟨⟨k + 1, by omega, by go_num, hT, hB⟩, by simp [intOf]; omega⟩
   ·obtain rfl : i = N := by omega
    go_wp2_with fail
    go_ret
    exact ⟨rfl, hB⟩
set_option maxRecDepth 100000 in
theorem lifted (os : Go.Os) (started : os.Started) (H : Type) (enc : TypeId × Value → H) :
  ReturnsInHanded {} Tryz.checked os 6 .any (Rows.clusterSameSpec.pre6 enc Tryz.prog Tryz.f6 Rows.clusterSameRow.domain false) (Rows.clusterSameSpec.post enc Tryz.prog Tryz.f6 false true false false) := by
 refine returnsInHanded_of_change_sized (C := Tryz.checked) own started (by kernel_rfl) Tryz.func6
  (ChangeSpec.witness6 (enc := enc) (C := Tryz.checked) false ⟨#[], #[.agg (plv 0 0 (.slice none 0 0))], []⟩ 8 (by kernel_rfl) (by kernel_rfl) (by kernel_rfl) (by kernel_rfl)) ?_
 intro W base args ds gs before hval0 hW hcnd hsz0 _
 have hval : ∀ (j : Nat) t v, Tryz.f6.params[j]? = some t → args[j]? = some v → Value.okWide Tryz.prog W .any base t v := hval0
 have hsz : (DataW.weightsEach Tryz.prog (Tryz.f6.params.toList ++ Rows.clusterSameSpec.plain.varTypes Tryz.prog) (ds ++ gs)).all (· ≤ reachBytes) = true := hsz0
 have hW' := hW
 obtain ⟨p, q, hA0, hV, rfl, hfz, hnd⟩ := hW
 have hA : DataW.TrodAll enc Tryz.prog W 0 (fun _ => true) true Tryz.f6.params.toList args.toList ds p := hA0
 rw [Tryz.params6] at hA hval hsz
 obtain ⟨v0, vs0, d0, ds0, p0, q0, hargs, rfl, rfl, h0, r0⟩ := trodAll_cons hA
 obtain ⟨rfl, rfl, rfl⟩ := trodAll_nil r0
 obtain rfl : args = #[v0] := by cases args; simp_all
 obtain ⟨rfl, rfl⟩ := trodVars_none hV
 obtain ⟨pn0, pw0, D0, da0, dc0, rfl, hc0, hm0, ho0, hD0⟩ := open_play (by obtain ⟨cs, h1, _⟩ := okWide_struct Tryz.underlying24 (hval 0 24 v0 rfl rfl); exact ⟨cs, h1⟩) (fun n hn => of_decide_eq_true (List.all_eq_true.1 hsz _ (DataW.weights_mem_each (j := 0) rfl rfl n hn))) h0
 have hA2 := hA0
 clear hA0 hval0 hsz0
 simp only [List.append_nil] at hW'
 refine (walk pn0 pw0 D0 da0 dc0 hc0 hm0 ho0 W hD0).mono fun e W' ⟨he, bel⟩ => ?_
 subst he
 exact ⟨_, rfl, _, _, _, [], _, [], hW', trodAll_mk1 (shut_bool Tryz.underlying4 _), (stays_all laidOut bel (by kernel_rfl) hA2), rfl, bel.frame _, fun h => by cases h⟩
theorem over : Rows.clusterSameRow.holds Tryz.pinned (OpenSpec.ofChange Rows.clusterSameSpec) :=
 OpenClaim.holds_of_wide 6 Tryz.f6 rfl rfl rfl rfl rfl rfl rfl ⟨rfl, rfl, rfl, rfl, rfl⟩ rfl rfl rfl rfl rfl (by kernel_rfl) Tryz.func6 (by kernel_rfl)
  (of_decide_eq_true (by kernel_rfl)) (by unfold Func.isWrapper; first | (rw [if_pos (by decide +kernel)]; kernel_rfl) | (rw [if_neg (by decide +kernel)]; exact ⟨rfl, rfl⟩))
  (fun os started H enc _ => lifted os started H enc)
end Go.Proofs.YthgfpdidilolgaaGreat.clusterSame
namespace Go.Proofs.YthgfpdidilolgaaGreat
theorem clusterSame_holds : Rows.ClusterSameSaid := clusterSame.over
#print axioms clusterSame_holds
end Go.Proofs.YthgfpdidilolgaaGreat
