/-
  a configuration that several install has one list of members, the same to all, and they are in it; each one's rise; and no daemon installs one twice
  For every play, of at most 150 deeds.
-/
import Derived.Test.YthgfpdidilolgaaGreatRows
import Derived.Test.YthgfpdidilolgaaGreatZ39
import Derived.WalkKit
import Derived.ProofKit
import Derived.OpenShut
import Derived.ShutString
import Derived.SizedLaws
import Derived.ChangeOld
import Derived.Below
namespace Go.Proofs.YthgfpdidilolgaaGreat.clusterViews
open Go.Sort Go.ChangeShapes Go.WideShapes Go.ChangeAt Go.RowKit
open Go.ChangeMaps (open_string shut_string)
set_option linter.unusedVariables false
set_option linter.unusedSimpArgs false
set_option maxRecDepth 10000
theorem own : ownKnob Tryz.prog.godebug = none := by kernel_rfl
theorem length_bytes (s : ByteArray) : s.data.toList.length = s.size := by rw [Array.length_toList]; rfl
theorem and7 (d : Nat) (h : d < 8) : bits .and .i64 (d : Int) 7 = (d : Int) := by
 have : d = 0 ∨ d = 1 ∨ d = 2 ∨ d = 3 ∨ d = 4 ∨ d = 5 ∨ d = 6 ∨ d = 7 := by omega
 rcases this with rfl | rfl | rfl | rfl | rfl | rfl | rfl | rfl <;> decide
set_option maxHeartbeats 16000000 in
theorem walk (pn pw : Int) (D : List De) (da : Option Addr) (dc : Nat) (hDc : D.length ≤ dc) (hDm : dc ≤ maxLen) (hDo : ∀ d ∈ D, d.ok) (w : World) (hD : Li De.vals 0 da D w) :
  Calls Tryz.prog 4 #[.agg (plv pn pw (.slice da D.length dc))] w fun e w' => e = .returned (.bool true) ∧ Below w.heap.size w w' := by
 have hDm2 : D.length ≤ 9223372036854775807 := Nat.le_trans hDc hDm
 cases hbeg : begB pn pw with
 | false =>
  have pP := played_no pn pw (.slice da D.length dc) hbeg
  obtain ⟨v, ev⟩ : ∃ v, Hid (plv pn pw (.slice da D.length dc) = v) := ⟨_, rfl⟩
  have hv : (Tryz.prog.info? 24).map (·.size) = some v.size := by rw [← ev.out]; exact sizePy
  rw [ev.out] at pP ⊢
  have b0 := blk_new w v 24
  have hB := below_box w (.cells v 24)
  clear ev hD hDo
  go_enter Tryz.func4, Tryz.ntmps4
  go_upto_region 1 with fail
  generalize w.alloc (Obj.cells v 24) = V at b0 hB ⊢
  go_wp2_with (refine load_blk rfl 24 _ rfl b0 rfl Tryz.underlying24 rfl hv ?_)
  refine (pP _).mono ?_
  rintro r w1 ⟨rfl, hb⟩
  replace hB := hB.trans (hb.mono hB.size)
  have hb2 := below_box w1 (.cells (clc 0 (.slice none 0 0) (.slice none 0 0) (.slice none 0 0)) 29)
  clear pP hb
  go_upto_region 2 with (go_big_may; first | refine alloc_zero zeroCl rfl rfl ?_ | refine store_new rfl 29 _ _ rfl (cells := (clc 0 (.slice none 0 0) (.slice none 0 0) (.slice none 0 0))) rfl rfl sizeCl rfl (clc_one _ _ _ _ _ _ _ _ _ _) ?_)
  try simp only [Act.put, List.setIfInBounds_toArray, List.set_cons_zero, List.set_cons_succ]
  generalize w1.alloc (Obj.cells (clc 0 (.slice none 0 0) (.slice none 0 0) (.slice none 0 0)) 29) = w2 at hb2 ⊢
  replace hB := hB.trans (hb2.mono hB.size)
  go_wp2_with fail
  refine (ufixed_ok _).mono ?_
  rintro r w3 ⟨rfl, hb⟩
  replace hB := hB.trans (hb.mono hB.size)
  clear hb hb2
  go_wp2_with fail
  refine (ufixed_ok _).mono ?_
  rintro r w4 ⟨rfl, hb⟩
  replace hB := hB.trans (hb.mono hB.size)
  clear hb
  go_wp2_with fail
  go_ret
  exact ⟨rfl, hB⟩
 | true =>
  obtain ⟨n, rfl⟩ : ∃ n : Nat, pn = (n : Int) := ⟨pn.toNat, by unfold begB at hbeg; rw [decide_eq_true_eq] at hbeg; omega⟩
  have pP := fun u' hu => played_yes n pw D da dc hbeg u' hu hDc hDm2 hDo
  obtain ⟨v, ev⟩ : ∃ v, Hid (plv (n : Int) pw (.slice da D.length dc) = v) := ⟨_, rfl⟩
  have hv : (Tryz.prog.info? 24).map (·.size) = some v.size := by rw [← ev.out]; exact sizePy
  rw [ev.out] at pP ⊢
  have b0 := blk_new w v 24
  have hB := below_box w (.cells v 24)
  clear ev hDo
  go_enter Tryz.func4, Tryz.ntmps4
  go_upto_region 1 with fail
  generalize w.alloc (Obj.cells v 24) = V at b0 hB ⊢
  go_wp2_with (refine load_blk rfl 24 _ rfl b0 rfl Tryz.underlying24 rfl hv ?_)
  refine (pP _ (hD.below hB)).mono ?_
  rintro r w1 ⟨⟨S, C, ta, tc, rfl, hC1, hC2, ⟨k0, G, hJ⟩, hN6, hT⟩, hb⟩
  replace hB := hB.trans (hb.mono hB.size)
  have hsC : (Tryz.prog.info? 29).map (·.size) = some C.size := by rw [hC1]; exact sizeCl
  have hb2 := below_box w1 (.cells C 29)
  obtain ⟨T, eT⟩ : ∃ T, Hid (S.t = T) := ⟨_, rfl⟩
  rw [eT.out] at hT hN6 ⊢
  obtain ⟨N, eN⟩ : ∃ N, Hid (T.length = N) := ⟨_, rfl⟩
  rw [eN.out] at hN6 ⊢
  obtain ⟨hN6, hNc⟩ := hN6
  have hn8 := hJ.n8
  have HG : Hid (GI n G T) := by
   have := hJ.g
   rw [eT.out] at this
   exact this
  clear pP hb hJ eT hD hDc hDm hDm2 b0 hbeg hv
  go_upto_region 2 with (go_big_may; first | refine alloc_zero zeroCl rfl rfl ?_ | refine store_new rfl 29 _ _ rfl (cells := C) rfl rfl hsC hC1.symm hC2 ?_)
  try simp only [Act.put, List.setIfInBounds_toArray, List.set_cons_zero, List.set_cons_succ]
  generalize w1.alloc (Obj.cells C 29) = w2 at hb2 ⊢
  replace hB := hB.trans (hb2.mono hB.size)
  replace hT := (hT.below hb2).mono (Nat.zero_le _)
  go_wp2_with fail
  refine (ufixed_ok _).mono ?_
  rintro r w3 ⟨rfl, hb⟩
  replace hB := hB.trans (hb.mono hB.size)
  replace hT := hT.below hb
  clear hb hb2 hC1 hC2 hsC
  go_wp2_with fail
  go_loopw [6] (fun iv wr => ∃ i : Nat, i ≤ N ∧ iv = .int .i64 i ∧ Li Td.vals 0 ta T wr ∧ Below w.heap.size w wr) (fun iv _ => N - (intOf iv).toNat)
  case atStart => exact ⟨0, by omega, rfl, hT, hB⟩
  case round =>
   clear hT hB
   obtain ⟨i, hi, rfl, hT, hB⟩ := hrel
   by_cases hin : i < N
   ·have i0 : (i : Int) < (N : Int) := by omega
    have i1 : (0 : Int) ≤ (i : Int) := by omega
    have i2 : (i : Int) + 1 < 1000 := by omega
    obtain ⟨a, ha⟩ : ∃ a, T[i]? = some a := ⟨_, List.getElem?_eq_getElem (by rw [eN.out]; exact hin)⟩
    have hTA : Hid (TA n G T a) := HG.out.ta a (List.mem_of_getElem? ha)
    have hTO : Hid (TO (T.take i) a) := HG.out.tt (T.take i) a (T.drop (i + 1)) (by rw [← List.drop_eq_getElem_cons2 ha, List.take_append_drop])
    obtain ⟨bt, of, rfl, _, hbl, hr⟩ := hT.at Td.vals_length i a ha
    have hb := below_box wr (.cells a.arr 59)
    have b7 := blk_new wr a.arr 59
    go_upto_region 8 with (go_big_may; first | refine load_range rfl 59 _ rfl (o := of + i * 55) a.vals hr rfl Tryz.underlying59 rfl sizeTd ?_ | refine alloc_zero zeroTd rfl rfl ?_ | refine store_new rfl 59 _ _ rfl (cells := a.arr) rfl rfl sizeTd rfl a.arr_one ?_)
    try simp only [Act.put, List.setIfInBounds_toArray, List.set_cons_zero, List.set_cons_succ]
    generalize wr.alloc (Obj.cells a.arr 59) = W5 at b7 hb ⊢
    replace hT := hT.below hb
    replace hB := hB.trans (hb.mono hB.size)
    clear hr hbl hb ha
    generalize wr.heap.size = ya at b7 ⊢
    cases hv : a.h.view with
    | false =>
     have c5 : W5.cell? ⟨ya, 5, none⟩ = some (.bool false) := by rw [← hv]; exact b7.cell 5 _ rfl
     go_wp2_with fail
     exact ⟨⟨i + 1, by omega, by go_num, hT, hB⟩, by simp [intOf]; omega⟩
    | true =>
     have c5 : W5.cell? ⟨ya, 5, none⟩ = some (.bool true) := by rw [← hv]; exact b7.cell 5 _ rfl
     obtain ⟨v1, v2, _⟩ := hTA.out.vm hv
     have hwo := Nat.lt_of_lt_of_le hTA.out.who hn8
     obtain ⟨wo, ewo⟩ : ∃ x, Hid (a.who = x) := ⟨_, rfl⟩
     obtain ⟨ic, eic⟩ : ∃ x, Hid (a.inc = x) := ⟨_, rfl⟩
     rw [ewo.out] at hwo
     have q0 : a.arr[0]? = some (.int .i64 (wo : Int)) := by rw [← ewo.out]; rfl
     have q1 : a.arr[1]? = some (.int .u32 (ic : Int)) := by rw [← eic.out]; rfl
     have q2 : a.arr[47 + wo]? = some (.int .u32 (ic : Int)) := by
      rw [← eic.out, ← v1, ← ewo.out]
      exact Td.get_mem a a.who (by rw [ewo.out]; exact hwo)
     have k1 : ∀ w, (binOp .eql 51 (.agg a.h.conf.vals.toArray) (.agg a.inn.vals.toArray)).run Tryz.prog w = .ok (.bool false) w := eqlIdn _ _ false (by
      cases hs : Idn.same a.h.conf a.inn with
      | false => rfl
      | true => exact absurd ((Idn.same_iff _ _).1 hs) (lt_ne v2))
     have e2 : decide ((wo : Int) < 0) = false := by rw [decide_eq_false_iff_not]; omega
     have e3 : decide ((wo : Int) > 7) = false := by rw [decide_eq_false_iff_not]; omega
     have e4 := and7 wo hwo
     have e5 : (wo : Int) < 8 := by omega
     have e6 : (0 : Int) ≤ (wo : Int) := by omega
     clear v1 v2
     go_upto_region 9 with fail
     clear c5
     refine wp_region_held_drew (S := fun w' => Blk ya a.arr 59 w' ∧ Below W5.heap.size W5 w') (by kernel_rfl) ⟨b7.drew, (Below.refl _ _).drew⟩ (fun hHeld => ?_)
     refine tkH 0 (v := ?v1) rfl (by kernel_rfl) (fun _ _ _ h => h) (Or.inl ⟨by rfl, ?hy1⟩) hHeld ?_
     case hy1 => (intro w hSw; clear hSw; go_simp; try with_reducible rfl)
     try simp only [yA, yB, yC, Act.put, yD, yE, yF]
     refine tkH 1 (v := ?v2) rfl (by kernel_rfl) (fun _ _ _ h => h) (Or.inl ⟨by rfl, ?hy2⟩) hHeld ?_
     case hy2 => (intro w hSw; have hc := hSw.1.cell 0 (.int .i64 (wo : Int)) q0; clear hSw; go_simp; try with_reducible rfl)
     try simp only [yA, yB, yC, Act.put, yD, yE, yF]
     refine tkH 2 (v := ?v3) rfl (by kernel_rfl) (fun _ _ _ h => h) (Or.inl ⟨by rfl, ?hy3⟩) hHeld ?_
     case hy3 => (intro w hSw; clear hSw; go_simp; try with_reducible rfl)
     try simp only [yA, yB, yC, Act.put, yD, yE, yF]
     refine tkH 3 (v := ?v4) rfl (by kernel_rfl) (fun _ _ _ h => h) (Or.inl ⟨by rfl, ?hy4⟩) hHeld ?_
     case hy4 => (intro w hSw; clear hSw; go_simp; try with_reducible rfl)
     try simp only [yA, yB, yC, Act.put, yD, yE, yF]
     refine tkH 4 (v := ?v5) rfl (by kernel_rfl) (fun _ _ _ h => h) (Or.inl ⟨by rfl, ?hy5⟩) hHeld ?_
     case hy5 => (intro w hSw; clear hSw; go_simp; try with_reducible rfl)
     try simp only [yA, yB, yC, Act.put, yD, yE, yF]
     refine tkH 5 (v := ?v6) rfl (by kernel_rfl) (fun _ _ _ h => h) (Or.inl ⟨by rfl, ?hy6⟩) hHeld ?_
     case hy6 => (intro w hSw; have hc := hSw.1.cell 0 (.int .i64 (wo : Int)) q0; clear hSw; go_simp; try with_reducible rfl)
     try simp only [yA, yB, yC, Act.put, yD, yE, yF]
     refine tkH 6 (v := ?v7) rfl (by kernel_rfl) (fun _ _ _ h => h) (Or.inl ⟨by rfl, ?hy7⟩) hHeld ?_
     case hy7 => (intro w hSw; clear hSw; go_simp; try with_reducible rfl)
     try simp only [yA, yB, yC, Act.put, yD, yE, yF]
     refine tkH 7 (v := ?v8) rfl (by kernel_rfl) (fun _ _ _ h => h) (Or.inl ⟨by rfl, ?hy8⟩) hHeld ?_
     case hy8 => (intro w hSw; clear hSw; go_simp; try with_reducible rfl)
     try simp only [yA, yB, yC, Act.put, yD, yE, yF]
     refine tkH 8 (v := ?v9) rfl (by kernel_rfl) (fun _ _ _ h => h) (Or.inl ⟨by rfl, ?hy9⟩) hHeld ?_
     case hy9 => (intro w hSw; clear hSw; go_simp; try with_reducible rfl)
     try simp only [yA, yB, yC, Act.put, yD, yE, yF]
     refine tkH 9 (v := ?v10) rfl (by kernel_rfl) (fun _ _ _ h => h) (Or.inl ⟨by rfl, ?hy10⟩) hHeld ?_
     case hy10 => (intro w hSw; clear hSw; go_simp; try with_reducible rfl)
     try simp only [yA, yB, yC, Act.put, yD, yE, yF]
     refine tkH 10 (v := ?v11) rfl (by kernel_rfl) (fun _ _ _ h => h) (Or.inl ⟨by rfl, ?hy11⟩) hHeld ?_
     case hy11 => (intro w hSw; have hc := hSw.1.cell 0 (.int .i64 (wo : Int)) q0; clear hSw; go_simp; try with_reducible rfl)
     try simp only [yA, yB, yC, Act.put, yD, yE, yF]
     refine tkH 11 (v := ?v12) rfl (by kernel_rfl) (fun _ _ _ h => h) (Or.inl ⟨by rfl, ?hy12⟩) hHeld ?_
     case hy12 => (intro w hSw; clear hSw; go_simp; try with_reducible rfl)
     try simp only [yA, yB, yC, Act.put, yD, yE, yF]
     refine tkH 12 (v := ?v13) rfl (by kernel_rfl) (fun _ _ _ h => h) (Or.inl ⟨by rfl, ?hy13⟩) hHeld ?_
     case hy13 => (intro w hSw; clear hSw; go_simp; try with_reducible rfl)
     try simp only [yA, yB, yC, Act.put, yD, yE, yF]
     refine tkH 13 (v := ?v14) rfl (by kernel_rfl) (fun _ _ _ h => h) (Or.inl ⟨by rfl, ?hy14⟩) hHeld ?_
     case hy14 => (intro w hSw; clear hSw; go_simp; try with_reducible rfl)
     try simp only [yA, yB, yC, Act.put, yD, yE, yF]
     refine tkH 14 (v := ?v15) rfl (by kernel_rfl) (fun _ _ _ h => h) (Or.inl ⟨by rfl, ?hy15⟩) hHeld ?_
     case hy15 => (intro w hSw; clear hSw; go_simp; try with_reducible rfl)
     try simp only [yA, yB, yC, Act.put, yD, yE, yF]
     refine tkH 15 (v := ?v16) rfl (by kernel_rfl) (fun _ _ _ h => h) (Or.inl ⟨by rfl, ?hy16⟩) hHeld ?_
     case hy16 => (intro w hSw; have hc := hSw.1.cell (47 + wo) (.int .u32 (ic : Int)) q2; clear hSw; go_simp; try with_reducible rfl)
     try simp only [yA, yB, yC, Act.put, yD, yE, yF]
     refine tkH 16 (v := ?v17) rfl (by kernel_rfl) (fun _ _ _ h => h) (Or.inl ⟨by rfl, ?hy17⟩) hHeld ?_
     case hy17 => (intro w hSw; clear hSw; go_simp; try with_reducible rfl)
     try simp only [yA, yB, yC, Act.put, yD, yE, yF]
     refine tkH 17 (v := ?v18) rfl (by kernel_rfl) (fun _ _ _ h => h) (Or.inl ⟨by rfl, ?hy18⟩) hHeld ?_
     case hy18 => (intro w hSw; have hc := hSw.1.cell 1 (.int .u32 (ic : Int)) q1; clear hSw; go_simp; try with_reducible rfl)
     try simp only [yA, yB, yC, Act.put, yD, yE, yF]
     refine tkH 18 (v := ?v19) rfl (by kernel_rfl) (fun _ _ _ h => h) (Or.inl ⟨by rfl, ?hy19⟩) hHeld ?_
     case hy19 => (intro w hSw; clear hSw; go_simp; try with_reducible rfl)
     try simp only [yA, yB, yC, Act.put, yD, yE, yF]
     refine tkH 19 (v := ?v20) rfl (by kernel_rfl) (fun _ _ _ h => h) (Or.inl ⟨by rfl, ?hy20⟩) hHeld ?_
     case hy20 => (intro w hSw; clear hSw; go_simp; try with_reducible rfl)
     try simp only [yA, yB, yC, Act.put, yD, yE, yF]
     refine tkH 20 (v := ?v21) rfl (by kernel_rfl) (fun _ _ _ h => h) (Or.inl ⟨by rfl, ?hy21⟩) hHeld ?_
     case hy21 => (intro w hSw; clear hSw; go_simp; try with_reducible rfl)
     try simp only [yA, yB, yC, Act.put, yD, yE, yF]
     refine tkH 21 (v := ?v22) rfl (by kernel_rfl) (fun _ _ _ h => h) (Or.inl ⟨by rfl, ?hy22⟩) hHeld ?_
     case hy22 => (intro w hSw; clear hSw; go_simp; try with_reducible rfl)
     try simp only [yA, yB, yC, Act.put, yD, yE, yF]
     refine tkH 22 (v := ?v23) rfl (by kernel_rfl) (fun _ _ _ h => h) (Or.inl ⟨by rfl, ?hy23⟩) hHeld ?_
     case hy23 => (intro w hSw; clear hSw; go_simp; try with_reducible rfl)
     try simp only [yA, yB, yC, Act.put, yD, yE, yF]
     refine' tkH 23 (v := _) rfl (by kernel_rfl) (fun _ _ _ h => h) (yieldsIf_load_mid (by rfl) _ _ rfl ya 44 rfl a.h.conf.vals _ ?hS24 Tryz.underlying51 rfl sizeIdn) hHeld ?_
     case hS24 => exact fun w h => h.1.range 44 _ (Td.p_conf a)
     try simp only [yA, yB, yC, Act.put, yD, yE, yF]
     refine tkH 24 (v := ?v25) rfl (by kernel_rfl) (fun _ _ _ h => h) (Or.inl ⟨by rfl, ?hy25⟩) hHeld ?_
     case hy25 => (intro w hSw; clear hSw; go_simp; try with_reducible rfl)
     try simp only [yA, yB, yC, Act.put, yD, yE, yF]
     refine' tkH 25 (v := _) rfl (by kernel_rfl) (fun _ _ _ h => h) (yieldsIf_load_mid (by rfl) _ _ rfl ya 2 rfl a.inn.vals _ ?hS26 Tryz.underlying51 rfl sizeIdn) hHeld ?_
     case hS26 => exact fun w h => h.1.range 2 _ (Td.p_in a)
     try simp only [yA, yB, yC, Act.put, yD, yE, yF]
     refine tkH 26 (v := ?v27) rfl (by kernel_rfl) (fun _ _ _ h => h) (Or.inl ⟨by rfl, ?hy27⟩) hHeld ?_
     case hy27 => (intro w hSw; clear hSw; go_simp; try with_reducible rfl)
     try simp only [yA, yB, yC, Act.put, yD, yE, yF]
     refine tkH 27 (v := ?v28) rfl (by kernel_rfl) (fun _ _ _ h => h) (Or.inl ⟨by rfl, ?hy28⟩) hHeld ?_
     case hy28 => (intro w hSw; clear hSw; go_simp; try with_reducible rfl)
     try simp only [yA, yB, yC, Act.put, yD, yE, yF]
     refine wpAnyH_done (by kernel_rfl) ?_ _
     replace hT := hT.below hHeld.2
     replace hB := hB.trans (hHeld.2.mono hB.size)
     replace b7 := hHeld.1
     clear hHeld k1 q0 q1 q2 e2 e3
     go_wp2_with fail
     go_loopw [8] (fun kv wr => ∃ k : Nat, k ≤ i ∧ kv = .int .i64 k ∧ Blk ya a.arr 59 wr ∧ Li Td.vals 0 (some ⟨bt, of, none⟩) T wr ∧ Below w.heap.size w wr) (fun kv _ => i - (intOf kv).toNat)
     case atStart => exact ⟨0, by omega, rfl, b7, hT, hB⟩
     case round =>
      clear hT hB b7
      obtain ⟨k, hk, rfl, b7, hT, hB⟩ := hrel
      by_cases hki : k < i
      ·have k0 : (k : Int) < (i : Int) := by omega
       have k1 : (0 : Int) ≤ (k : Int) := by omega
       have k2 : (k : Int) < (N : Int) := by omega
       obtain ⟨b, hb⟩ : ∃ b, T[k]? = some b := ⟨_, List.getElem?_eq_getElem (by rw [eN.out]; omega)⟩
       have hbm : b ∈ T.take i := List.mem_of_getElem? (i := k) (by rw [List.getElem?_take, if_pos hki]; exact hb)
       have hr2 := hT.rng Td.vals_length k b hb
       have hb5 := below_box wr (.cells b.arr 59)
       have b9 := blk_new wr b.arr 59
       go_upto_region 15 with (go_big_may; first | refine load_range rfl 59 _ rfl (o := of + k * 55) b.vals hr2 rfl Tryz.underlying59 rfl sizeTd ?_ | refine alloc_zero zeroTd rfl rfl ?_ | refine store_new rfl 59 _ _ rfl (cells := b.arr) rfl rfl sizeTd rfl b.arr_one ?_)
       try simp only [Act.put, List.setIfInBounds_toArray, List.set_cons_zero, List.set_cons_succ]
       generalize wr.alloc (Obj.cells b.arr 59) = W6 at b9 hb5 ⊢
       replace b7 := b7.below hb5
       replace hT := hT.below hb5
       replace hB := hB.trans (hb5.mono hB.size)
       clear hr2 hb5
       generalize wr.heap.size = yb at b9 ⊢
       obtain ⟨wb, ewb⟩ : ∃ x, Hid (b.who = x) := ⟨_, rfl⟩
       have d0 : W6.cell? ⟨yb, 0, none⟩ = some (.int .i64 (wb : Int)) := by rw [← ewb.out]; exact b9.cell 0 _ rfl
       have d1 : W6.cell? ⟨ya, 0, none⟩ = some (.int .i64 (wo : Int)) := by rw [← ewo.out]; exact b7.cell 0 _ rfl
       obtain ⟨sI, hsI⟩ : ∃ s, Idn.same b.h.conf a.h.conf = s := ⟨_, rfl⟩
       have kI : ∀ w, (binOp .eql 51 (.agg #[.int .u32 (b.h.conf.e : Int), .int .u32 (b.h.conf.c : Int), .int .u32 (b.h.conf.i : Int)]) (.agg #[.int .u32 (a.h.conf.e : Int), .int .u32 (a.h.conf.c : Int), .int .u32 (a.h.conf.i : Int)])).run Tryz.prog w = .ok (.bool sI) w := eqlIdn _ _ sI hsI
       have fin : b.h.view = true → sI = true → mbSame b.h.mem a.h.mem = true ∧ wb ≠ wo := fun h1 h2 => by
        rw [h2, Idn.same_iff] at hsI
        obtain ⟨x1, x2⟩ := hTO.out.v hv b hbm h1 hsI
        rw [ewb.out, ewo.out] at x2
        exact ⟨(mbSame_iff _ _).2 x1, x2⟩
       clear hsI hb hbm
       cases hvb : b.h.view with
       | false =>
        have d2 : W6.cell? ⟨yb, 5, none⟩ = some (.bool false) := by rw [← hvb]; exact b9.cell 5 _ rfl
        go_wp2_with fail
        exact ⟨⟨k + 1, by omega, by go_num, b7, hT, hB⟩, by simp [intOf]; omega⟩
       | true =>
        have d2 : W6.cell? ⟨yb, 5, none⟩ = some (.bool true) := by rw [← hvb]; exact b9.cell 5 _ rfl
        cases sI with
        | false =>
         have zb44 : W6.cell? ⟨yb, 44, none⟩ = some (.int .u32 (b.h.conf.e : Int)) := b9.cell 44 _ rfl
         have zb45 : W6.cell? ⟨yb, 45, none⟩ = some (.int .u32 (b.h.conf.c : Int)) := b9.cell 45 _ rfl
         have zb46 : W6.cell? ⟨yb, 46, none⟩ = some (.int .u32 (b.h.conf.i : Int)) := b9.cell 46 _ rfl
         have za44 : W6.cell? ⟨ya, 44, none⟩ = some (.int .u32 (a.h.conf.e : Int)) := b7.cell 44 _ rfl
         have za45 : W6.cell? ⟨ya, 45, none⟩ = some (.int .u32 (a.h.conf.c : Int)) := b7.cell 45 _ rfl
         have za46 : W6.cell? ⟨ya, 46, none⟩ = some (.int .u32 (a.h.conf.i : Int)) := b7.cell 46 _ rfl
         clear b9
         go_wp2_with fail
         exact ⟨⟨k + 1, by omega, by go_num, b7, hT, hB⟩, by simp [intOf]; omega⟩
        | true =>
         obtain ⟨x1, x2⟩ := fin hvb rfl
         have kM : ∀ w, (binOp .neq 55 (.agg #[.int .u32 (b.h.mem 0 : Int), .int .u32 (b.h.mem 1 : Int), .int .u32 (b.h.mem 2 : Int), .int .u32 (b.h.mem 3 : Int), .int .u32 (b.h.mem 4 : Int), .int .u32 (b.h.mem 5 : Int), .int .u32 (b.h.mem 6 : Int), .int .u32 (b.h.mem 7 : Int)]) (.agg #[.int .u32 (a.h.mem 0 : Int), .int .u32 (a.h.mem 1 : Int), .int .u32 (a.h.mem 2 : Int), .int .u32 (a.h.mem 3 : Int), .int .u32 (a.h.mem 4 : Int), .int .u32 (a.h.mem 5 : Int), .int .u32 (a.h.mem 6 : Int), .int .u32 (a.h.mem 7 : Int)])).run Tryz.prog w = .ok (.bool false) w := neqMb _ _ true x1
         have x3 : ((wb : Int) == (wo : Int)) = false := by simp; omega
         clear fin x1 x2
         have zb44 : W6.cell? ⟨yb, 44, none⟩ = some (.int .u32 (b.h.conf.e : Int)) := b9.cell 44 _ rfl
         have zb45 : W6.cell? ⟨yb, 45, none⟩ = some (.int .u32 (b.h.conf.c : Int)) := b9.cell 45 _ rfl
         have zb46 : W6.cell? ⟨yb, 46, none⟩ = some (.int .u32 (b.h.conf.i : Int)) := b9.cell 46 _ rfl
         have za44 : W6.cell? ⟨ya, 44, none⟩ = some (.int .u32 (a.h.conf.e : Int)) := b7.cell 44 _ rfl
         have za45 : W6.cell? ⟨ya, 45, none⟩ = some (.int .u32 (a.h.conf.c : Int)) := b7.cell 45 _ rfl
         have za46 : W6.cell? ⟨ya, 46, none⟩ = some (.int .u32 (a.h.conf.i : Int)) := b7.cell 46 _ rfl
         have zb47 : W6.cell? ⟨yb, 47, none⟩ = some (.int .u32 (b.h.mem 0 : Int)) := b9.cell 47 _ rfl
         have zb48 : W6.cell? ⟨yb, 48, none⟩ = some (.int .u32 (b.h.mem 1 : Int)) := b9.cell 48 _ rfl
         have zb49 : W6.cell? ⟨yb, 49, none⟩ = some (.int .u32 (b.h.mem 2 : Int)) := b9.cell 49 _ rfl
         have zb50 : W6.cell? ⟨yb, 50, none⟩ = some (.int .u32 (b.h.mem 3 : Int)) := b9.cell 50 _ rfl
         have zb51 : W6.cell? ⟨yb, 51, none⟩ = some (.int .u32 (b.h.mem 4 : Int)) := b9.cell 51 _ rfl
         have zb52 : W6.cell? ⟨yb, 52, none⟩ = some (.int .u32 (b.h.mem 5 : Int)) := b9.cell 52 _ rfl
         have zb53 : W6.cell? ⟨yb, 53, none⟩ = some (.int .u32 (b.h.mem 6 : Int)) := b9.cell 53 _ rfl
         have zb54 : W6.cell? ⟨yb, 54, none⟩ = some (.int .u32 (b.h.mem 7 : Int)) := b9.cell 54 _ rfl
         have za47 : W6.cell? ⟨ya, 47, none⟩ = some (.int .u32 (a.h.mem 0 : Int)) := b7.cell 47 _ rfl
         have za48 : W6.cell? ⟨ya, 48, none⟩ = some (.int .u32 (a.h.mem 1 : Int)) := b7.cell 48 _ rfl
         have za49 : W6.cell? ⟨ya, 49, none⟩ = some (.int .u32 (a.h.mem 2 : Int)) := b7.cell 49 _ rfl
         have za50 : W6.cell? ⟨ya, 50, none⟩ = some (.int .u32 (a.h.mem 3 : Int)) := b7.cell 50 _ rfl
         have za51 : W6.cell? ⟨ya, 51, none⟩ = some (.int .u32 (a.h.mem 4 : Int)) := b7.cell 51 _ rfl
         have za52 : W6.cell? ⟨ya, 52, none⟩ = some (.int .u32 (a.h.mem 5 : Int)) := b7.cell 52 _ rfl
         have za53 : W6.cell? ⟨ya, 53, none⟩ = some (.int .u32 (a.h.mem 6 : Int)) := b7.cell 53 _ rfl
         have za54 : W6.cell? ⟨ya, 54, none⟩ = some (.int .u32 (a.h.mem 7 : Int)) := b7.cell 54 _ rfl
         clear b9
         go_wp2_with fail
         exact ⟨⟨k + 1, by omega, by go_num, b7, hT, hB⟩, by simp [intOf]; omega⟩
      ·obtain rfl : k = i := by omega
       go_wp2_with fail
       exact ⟨⟨k + 1, by omega, by go_num, hT, hB⟩, by simp [intOf]; omega⟩
   ·obtain rfl : i = N := by omega
    go_wp2_with fail
    go_ret
    exact ⟨rfl, hB⟩
set_option maxRecDepth 100000 in
theorem lifted (os : Go.Os) (started : os.Started) (H : Type) (enc : TypeId × Value → H) :
  ReturnsInHanded {} Tryz.checked os 4 .any (Rows.clusterViewsSpec.pre6 enc Tryz.prog Tryz.f4 Rows.clusterViewsRow.domain false) (Rows.clusterViewsSpec.post enc Tryz.prog Tryz.f4 false true false false) := by
 refine returnsInHanded_of_change_sized (C := Tryz.checked) own started (by kernel_rfl) Tryz.func4
  (ChangeSpec.witness6 (enc := enc) (C := Tryz.checked) false ⟨#[], #[.agg (plv 0 0 (.slice none 0 0))], []⟩ 8 (by kernel_rfl) (by kernel_rfl) (by kernel_rfl) (by kernel_rfl)) ?_
 intro W base args ds gs before hval0 hW hcnd hsz0 _
 have hval : ∀ (j : Nat) t v, Tryz.f4.params[j]? = some t → args[j]? = some v → Value.okWide Tryz.prog W .any base t v := hval0
 have hsz : (DataW.weightsEach Tryz.prog (Tryz.f4.params.toList ++ Rows.clusterViewsSpec.plain.varTypes Tryz.prog) (ds ++ gs)).all (· ≤ reachBytes) = true := hsz0
 have hW' := hW
 obtain ⟨p, q, hA0, hV, rfl, hfz, hnd⟩ := hW
 have hA : DataW.TrodAll enc Tryz.prog W 0 (fun _ => true) true Tryz.f4.params.toList args.toList ds p := hA0
 rw [Tryz.params4] at hA hval hsz
 obtain ⟨v0, vs0, d0, ds0, p0, q0, hargs, rfl, rfl, h0, r0⟩ := trodAll_cons hA
 obtain ⟨rfl, rfl, rfl⟩ := trodAll_nil r0
 obtain rfl : args = #[v0] := by cases args; simp_all
 obtain ⟨rfl, rfl⟩ := trodVars_none hV
 obtain ⟨pn0, pw0, D0, da0, dc0, rfl, hc0, hm0, ho0, hD0⟩ := open_play (by obtain ⟨cs, h1, _⟩ := okWide_struct Tryz.underlying24 (hval 0 24 v0 rfl rfl); exact ⟨cs, h1⟩) (fun n hn => of_decide_eq_true (List.all_eq_true.1 hsz _ (DataW.weights_mem_each (j := 0) rfl rfl n hn))) h0
 have hA2 := hA0
 clear hA0 hval0 hsz0
 simp only [List.append_nil] at hW'
 refine (walk pn0 pw0 D0 da0 dc0 hc0 hm0 ho0 W hD0).mono fun e W' ⟨he, bel⟩ => ?_
 subst he
 exact ⟨_, rfl, _, _, _, [], _, [], hW', trodAll_mk1 (shut_bool Tryz.underlying4 _), (stays_all laidOut bel (by kernel_rfl) hA2), rfl, bel.frame _, fun h => by cases h⟩
theorem over : Rows.clusterViewsRow.holds Tryz.pinned (OpenSpec.ofChange Rows.clusterViewsSpec) :=
 OpenClaim.holds_of_wide 4 Tryz.f4 rfl rfl rfl rfl rfl rfl rfl ⟨rfl, rfl, rfl, rfl, rfl⟩ rfl rfl rfl rfl rfl (by kernel_rfl) Tryz.func4 (by kernel_rfl)
  (of_decide_eq_true (by kernel_rfl)) (by unfold Func.isWrapper; first | (rw [if_pos (by decide +kernel)]; kernel_rfl) | (rw [if_neg (by decide +kernel)]; exact ⟨rfl, rfl⟩))
  (fun os started H enc _ => lifted os started H enc)
end Go.Proofs.YthgfpdidilolgaaGreat.clusterViews
namespace Go.Proofs.YthgfpdidilolgaaGreat
theorem clusterViews_holds : Rows.ClusterViewsSaid := clusterViews.over
#print axioms clusterViews_holds
end Go.Proofs.YthgfpdidilolgaaGreat
