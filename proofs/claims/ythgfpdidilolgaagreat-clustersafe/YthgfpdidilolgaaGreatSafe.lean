/-
  where a round is safe to one daemon, each member of that configuration that goes on from it was told all frames of that round
  For every play, of at most 150 deeds.
-/
import Derived.Test.YthgfpdidilolgaaGreatRows
import Derived.Test.YthgfpdidilolgaaGreatClYX
import Derived.WalkKit
import Derived.ProofKit
import Derived.OpenShut
import Derived.ShutString
import Derived.SizedLaws
import Derived.ChangeOld
import Derived.Below
namespace Go.Proofs.YthgfpdidilolgaaGreat.clusterSafe
open Go.Sort Go.ChangeShapes Go.WideShapes Go.ChangeAt Go.RowKit
open Go.ChangeMaps (open_string shut_string)
set_option linter.unusedVariables false
set_option linter.unusedSimpArgs false
set_option maxRecDepth 10000
theorem own : ownKnob Tryz.prog.godebug = none := by kernel_rfl
theorem length_bytes (s : ByteArray) : s.data.toList.length = s.size := by rw [Array.length_toList]; rfl
theorem and7 (d : Nat) (h : d < 8) : bits .and .i64 (d : Int) 7 = (d : Int) := by
 have : d = 0 ∨ d = 1 ∨ d = 2 ∨ d = 3 ∨ d = 4 ∨ d = 5 ∨ d = 6 ∨ d = 7 := by omega
 rcases this with rfl | rfl | rfl | rfl | rfl | rfl | rfl | rfl <;> decide
set_option maxHeartbeats 16000000 in
theorem walk (pn pw : Int) (D : List De) (da : Option Addr) (dc : Nat) (hDc : D.length ≤ dc) (hDm : dc ≤ maxLen) (hDo : ∀ d ∈ D, d.ok) (w : World) (hD : Li De.vals 0 da D w) :
  Calls Tryz.prog 7 #[.agg (plv pn pw (.slice da D.length dc))] w fun e w' => e = .returned (.bool true) ∧ Below w.heap.size w w' := by
 have hDm2 : D.length ≤ 9223372036854775807 := Nat.le_trans hDc hDm
 cases hbeg : begB pn pw with
 | false =>
  have pP := played_no pn pw (.slice da D.length dc) hbeg
  obtain ⟨v, ev⟩ : ∃ v, Hid (plv pn pw (.slice da D.length dc) = v) := ⟨_, rfl⟩
  have hv : (Tryz.prog.info? 24).map (·.size) = some v.size := by rw [← ev.out]; exact sizePy
  rw [ev.out] at pP ⊢
  have b0 := blk_new w v 24
  have hB := below_box w (.cells v 24)
  clear ev hD hDo
  go_enter Tryz.func7, Tryz.ntmps7
  go_upto_region 1 with fail
  generalize w.alloc (Obj.cells v 24) = V at b0 hB ⊢
  go_wp2_with (refine load_blk rfl 24 _ rfl b0 rfl Tryz.underlying24 rfl hv ?_)
  refine (pP _).mono ?_
  rintro r w1 ⟨rfl, hb⟩
  replace hB := hB.trans (hb.mono hB.size)
  have hb2 := below_box w1 (.cells (clc 0 (.slice none 0 0) (.slice none 0 0) (.slice none 0 0)) 29)
  clear pP hb
  go_upto_region 2 with (go_big_may; first | refine alloc_zero zeroCl rfl rfl ?_ | refine store_new rfl 29 _ _ rfl (cells := (clc 0 (.slice none 0 0) (.slice none 0 0) (.slice none 0 0))) rfl rfl sizeCl rfl (clc_one _ _ _ _ _ _ _ _ _ _) ?_)
  try simp only [Act.put, List.setIfInBounds_toArray, List.set_cons_zero, List.set_cons_succ]
  generalize w1.alloc (Obj.cells (clc 0 (.slice none 0 0) (.slice none 0 0) (.slice none 0 0)) 29) = w2 at hb2 ⊢
  replace hB := hB.trans (hb2.mono hB.size)
  go_wp2_with fail
  refine (ufixed_ok _).mono ?_
  rintro r w3 ⟨rfl, hb⟩
  replace hB := hB.trans (hb.mono hB.size)
  clear hb hb2
  go_wp2_with fail
  refine (ufixed_ok _).mono ?_
  rintro r w4 ⟨rfl, hb⟩
  replace hB := hB.trans (hb.mono hB.size)
  clear hb
  go_wp2_with fail
  go_ret
  exact ⟨rfl, hB⟩
 | true =>
  obtain ⟨n, rfl⟩ : ∃ n : Nat, pn = (n : Int) := ⟨pn.toNat, by unfold begB at hbeg; rw [decide_eq_true_eq] at hbeg; omega⟩
  have pP := fun u' hu => played_yes n pw D da dc hbeg u' hu hDc hDm2 hDo
  obtain ⟨v, ev⟩ : ∃ v, Hid (plv (n : Int) pw (.slice da D.length dc) = v) := ⟨_, rfl⟩
  have hv : (Tryz.prog.info? 24).map (·.size) = some v.size := by rw [← ev.out]; exact sizePy
  rw [ev.out] at pP ⊢
  have b0 := blk_new w v 24
  have hB := below_box w (.cells v 24)
  clear ev hDo
  go_enter Tryz.func7, Tryz.ntmps7
  go_upto_region 1 with fail
  generalize w.alloc (Obj.cells v 24) = V at b0 hB ⊢
  go_wp2_with (refine load_blk rfl 24 _ rfl b0 rfl Tryz.underlying24 rfl hv ?_)
  refine (pP _ (hD.below hB)).mono ?_
  rintro r w1 ⟨⟨S, C, ta, tc, rfl, hC1, hC2, ⟨k0, G, hJ⟩, hN6, hT⟩, hb⟩
  replace hB := hB.trans (hb.mono hB.size)
  have hsC : (Tryz.prog.info? 29).map (·.size) = some C.size := by rw [hC1]; exact sizeCl
  have hb2 := below_box w1 (.cells C 29)
  obtain ⟨T, eT⟩ : ∃ T, Hid (S.t = T) := ⟨_, rfl⟩
  rw [eT.out] at hT hN6 ⊢
  obtain ⟨N, eN⟩ : ∃ N, Hid (T.length = N) := ⟨_, rfl⟩
  rw [eN.out] at hN6 ⊢
  obtain ⟨hN6, hNc⟩ := hN6
  have hn8 := hJ.n8
  have HG : Hid (GI n G T) := by
   have := hJ.g
   rw [eT.out] at this
   exact this
  clear pP hb hJ eT hD hDc hDm hDm2 b0 hbeg hv
  go_upto_region 2 with (go_big_may; first | refine alloc_zero zeroCl rfl rfl ?_ | refine store_new rfl 29 _ _ rfl (cells := C) rfl rfl hsC hC1.symm hC2 ?_)
  try simp only [Act.put, List.setIfInBounds_toArray, List.set_cons_zero, List.set_cons_succ]
  generalize w1.alloc (Obj.cells C 29) = w2 at hb2 ⊢
  replace hB := hB.trans (hb2.mono hB.size)
  replace hT := (hT.below hb2).mono (Nat.zero_le _)
  go_wp2_with fail
  refine (ufixed_ok _).mono ?_
  rintro r w3 ⟨rfl, hb⟩
  replace hB := hB.trans (hb.mono hB.size)
  replace hT := hT.below hb
  clear hb hb2 hC1 hC2 hsC
  go_wp2_with fail
  go_loopw [6] (fun iv wr => ∃ i : Nat, i ≤ N ∧ iv = .int .i64 i ∧ Li Td.vals 0 ta T wr ∧ Below w.heap.size w wr) (fun iv _ => N - (intOf iv).toNat)
  case atStart => exact ⟨0, by omega, rfl, hT, hB⟩
  case round =>
   clear hT hB
   obtain ⟨i, hi, rfl, hT, hB⟩ := hrel
   by_cases hin : i < N
   ·have i0 : (i : Int) < (N : Int) := by omega
    have i1 : (0 : Int) ≤ (i : Int) := by omega
    have i2 : (i : Int) + 1 < 1000 := by omega
    obtain ⟨a, ha⟩ : ∃ a, T[i]? = some a := ⟨_, List.getElem?_eq_getElem (by rw [eN.out]; exact hin)⟩
    have ham : Hid (a ∈ T) := List.mem_of_getElem? ha
    obtain ⟨bt, of, rfl, _, hbl, hr⟩ := hT.at Td.vals_length i a ha
    have hb := below_box wr (.cells a.arr 59)
    have b7 := blk_new wr a.arr 59
    go_upto_region 8 with (go_big_may; first | refine load_range rfl 59 _ rfl (o := of + i * 55) a.vals hr rfl Tryz.underlying59 rfl sizeTd ?_ | refine alloc_zero zeroTd rfl rfl ?_ | refine store_new rfl 59 _ _ rfl (cells := a.arr) rfl rfl sizeTd rfl a.arr_one ?_)
    try simp only [Act.put, List.setIfInBounds_toArray, List.set_cons_zero, List.set_cons_succ]
    generalize wr.alloc (Obj.cells a.arr 59) = W5 at b7 hb ⊢
    replace hT := hT.below hb
    replace hB := hB.trans (hb.mono hB.size)
    clear hr hbl hb ha
    generalize wr.heap.size = ya at b7 ⊢
    cases hv : a.h.view with
    | true =>
     have c5 : W5.cell? ⟨ya, 5, none⟩ = some (.bool true) := by rw [← hv]; exact b7.cell 5 _ rfl
     go_wp2_with fail
     exact ⟨⟨i + 1, by omega, by go_num, hT, hB⟩, by simp [intOf]; omega⟩
    | false =>
     have c5 : W5.cell? ⟨ya, 5, none⟩ = some (.bool false) := by rw [← hv]; exact b7.cell 5 _ rfl
     have hfr : ∀ t ∈ T, t.h.view = false → ∃ q, q < 8 ∧ t.h.k.fr = ((q : Nat) : Int) := fun t ht => (HG.out.ta t ht).fr
     obtain ⟨hPW, hc8⟩ := memB_pw HG.out hn8 ham.out
     obtain ⟨i3, hi3⟩ : ∃ x, Hid (i + 1 = x) := ⟨_, rfl⟩
     have hl3 : (T.take i3).length = i3 := by rw [List.length_take, eN.out, ← hi3.out]; omega
     have pG := fun u hu => members_ok T (some ⟨bt, of, none⟩) tc a.inn (by rw [eN.out]; omega) hc8 u hu
     have pM := fun u hu => counts_ok (T.take i3) (some ⟨bt, of, none⟩) tc a.who a.inc a.inn (by rw [hl3, ← hi3.out]; omega) (fun t ht => hfr t (List.mem_of_mem_take ht)) u hu
     rw [hl3] at pM
     have hleX : ∀ d, cnt (T.take i3) a.who a.inc a.inn d < 4294967296 := fun d => by
      have := cnt_le (T.take i3) a.who a.inc a.inn d
      rw [hl3] at this
      have := hi3.out
      omega
     have hsafe := fun (q : Nat) hq h2 => safe_all (i := i3) (p := a.who) (k := a.inc) HG.out hPW (q := q) hq h2
     have pXX := fun q k u hu => lnext_ok T (some ⟨bt, of, none⟩) tc q k a.inn (by rw [eN.out]; omega) u hu
     have pCC := fun q k u hu => counts_ok T (some ⟨bt, of, none⟩) tc q k a.inn (by rw [eN.out]; omega) hfr u hu
     have hlt : ∀ q k d, cnt T q k a.inn d < 4294967296 := fun q k d => by
      have := cnt_le T q k a.inn d
      rw [eN.out] at this
      omega
     rw [eN.out] at pG pXX pCC
     obtain ⟨M, hM⟩ : ∃ M, Hid (memB T a.inn = M) := ⟨_, rfl⟩
     rw [hM.out] at pG hsafe
     obtain ⟨Km, hKm⟩ : ∃ K, Hid ((fun q => cnt (T.take i3) a.who a.inc a.inn q) = K) := ⟨_, rfl⟩
     have hleK : ∀ d, Km d < 4294967296 := fun d => by rw [← hKm.out]; exact hleX d
     rw [hKm.out] at pM hsafe
     have pL := rleast_ok Km M
     have hl32 := leastC_lt Km M hleK
     obtain ⟨l, hl⟩ : ∃ l, Hid (leastC Km M = l) := ⟨_, rfl⟩
     rw [hl.out] at pL hsafe hl32
     generalize (!(lst M).isEmpty) = em at pL
     clear hPW hc8 hfr hleX hleK
     have z2 : W5.cell? ⟨ya, 2, none⟩ = some (.int .u32 (a.inn.e : Int)) := b7.cell 2 _ rfl
     have z3 : W5.cell? ⟨ya, 3, none⟩ = some (.int .u32 (a.inn.c : Int)) := b7.cell 3 _ rfl
     have z4 : W5.cell? ⟨ya, 4, none⟩ = some (.int .u32 (a.inn.i : Int)) := b7.cell 4 _ rfl
     go_wp2_with fail
     refine (pG W5 hT).mono ?_
     rintro r W6 ⟨rfl, hb⟩
     replace b7 := b7.below hb
     replace hT := hT.below hb
     replace hB := hB.trans (hb.mono hB.size)
     clear hb pG c5 z2 z3 z4
     have b8 := blk_new W6 (mbc M) 55
     have hb := below_box W6 (.cells (mbc M) 55)
     go_upto_region 10 with (go_big_may; first | refine alloc_zero zeroMb rfl rfl ?_ | refine store_new rfl 55 _ _ rfl (cells := mbc M) rfl rfl sizeMb rfl (mbc_one _) ?_)
     try simp only [Act.put, List.setIfInBounds_toArray, List.set_cons_zero, List.set_cons_succ]
     generalize W6.alloc (Obj.cells (mbc M) 55) = W8 at b8 hb ⊢
     replace b7 := b7.below hb
     replace hT := hT.below hb
     replace hB := hB.trans (hb.mono hB.size)
     generalize W6.heap.size = y8 at b8 ⊢
     clear hb
     have hTk := hT.take Td.vals_length i3
     have w1 : IntKind.i64.wrap ((i : Int) + 1) = (i3 : Int) := by rw [IntKind.wrap_i64, ← hi3.out]; omega
     have i4 : (0 : Int) ≤ (i3 : Int) := by omega
     have i5 : (i3 : Int) ≤ (tc : Int) := by have := hi3.out; omega
     go_cut [9] from 45 to 55 (fun pv wx => ∃ y9, pv = .pointer (some ⟨y9, 0, none⟩) ∧ Blk y9 (mbc Km) 60 wx ∧ Below W8.heap.size W8 wx)
     case first =>
      refine wp_region_held_drew (S := fun w' => Below W8.heap.size W8 w') (by kernel_rfl) (Below.refl _ _).drew (fun hHeld => ?_)
      refine tkH 0 (v := ?v1) rfl (by kernel_rfl) (fun _ _ _ h => h) (Or.inl ⟨by rfl, ?hy1⟩) hHeld ?_
      case hy1 => (intro w hSw; clear hSw; go_simp; try with_reducible rfl)
      try simp only [yA, yB, yC, Act.put, yD, yE, yF]
      refine tkH 1 (v := ?v2) rfl (by kernel_rfl) (fun _ _ _ h => h) (Or.inl ⟨by rfl, ?hy2⟩) hHeld ?_
      case hy2 => (intro w hSw; clear hSw; go_simp; try with_reducible rfl)
      try simp only [yA, yB, yC, Act.put, yD, yE, yF]
      refine tkH 2 (v := ?v3) rfl (by kernel_rfl) (fun _ _ _ h => h) (Or.inl ⟨by rfl, ?hy3⟩) hHeld ?_
      case hy3 => (intro w hSw; clear hSw; go_simp; try with_reducible rfl)
      try simp only [yA, yB, yC, Act.put, yD, yE, yF]
      refine tkH 3 (v := ?v4) rfl (by kernel_rfl) (fun _ _ _ h => h) (Or.inl ⟨by rfl, ?hy4⟩) hHeld ?_
      case hy4 => (intro w hSw; clear hSw; go_simp; try with_reducible rfl)
      try simp only [yA, yB, yC, Act.put, yD, yE, yF]
      refine tkH 4 (v := ?v5) rfl (by kernel_rfl) (fun _ _ _ h => h) (Or.inl ⟨by rfl, ?hy5⟩) hHeld ?_
      case hy5 => (intro w hSw; clear hSw; go_simp; try with_reducible rfl)
      try simp only [yA, yB, yC, Act.put, yD, yE, yF]
      refine tkH 5 (v := ?v6) rfl (by kernel_rfl) (fun _ _ _ h => h) (Or.inl ⟨by rfl, ?hy6⟩) hHeld ?_
      case hy6 => (intro w hSw; have hc := (b7.below hSw).cell 0 (.int .i64 (a.who : Int)) rfl; clear hSw; go_simp; try with_reducible rfl)
      try simp only [yA, yB, yC, Act.put, yD, yE, yF]
      refine tkH 6 (v := ?v7) rfl (by kernel_rfl) (fun _ _ _ h => h) (Or.inl ⟨by rfl, ?hy7⟩) hHeld ?_
      case hy7 => (intro w hSw; clear hSw; go_simp; try with_reducible rfl)
      try simp only [yA, yB, yC, Act.put, yD, yE, yF]
      refine tkH 7 (v := ?v8) rfl (by kernel_rfl) (fun _ _ _ h => h) (Or.inl ⟨by rfl, ?hy8⟩) hHeld ?_
      case hy8 => (intro w hSw; have hc := (b7.below hSw).cell 1 (.int .u32 (a.inc : Int)) rfl; clear hSw; go_simp; try with_reducible rfl)
      try simp only [yA, yB, yC, Act.put, yD, yE, yF]
      refine tkH 8 (v := ?v9) rfl (by kernel_rfl) (fun _ _ _ h => h) (Or.inl ⟨by rfl, ?hy9⟩) hHeld ?_
      case hy9 => (intro w hSw; clear hSw; go_simp; try with_reducible rfl)
      try simp only [yA, yB, yC, Act.put, yD, yE, yF]
      refine' tkH 9 (v := _) rfl (by kernel_rfl) (fun _ _ _ h => h) (yieldsIf_load_mid (by rfl) _ _ rfl ya 2 rfl a.inn.vals _ ?hS10 Tryz.underlying51 rfl sizeIdn) hHeld ?_
      case hS10 => exact fun w h => (b7.below h).range 2 _ (Td.p_in a)
      try simp only [yA, yB, yC, Act.put, yD, yE, yF]
      refine wpAnyH_ready (rs := [10, 11]) (by kernel_rfl) (by simp) ?_
      refine AllReadyH.cons rfl (fun K hK => ?_) (AllReadyH.cons rfl (fun K hK => ?_) (AllReadyH.nil))
      ·have hcz := hHeld.size
       go_simp
       go_wp2_with (refine (pM _ (hTk.below hHeld)).mono ?_; rintro r u1 ⟨rfl, hb⟩)
       refine hK.out _ _ (hHeld.below hb) (fun hHeld => ?_)
       clear hK K hb
       refine wpAnyH_ready (rs := [11]) (by kernel_rfl) (by simp) ?_
       refine AllReadyH.cons rfl (fun K hK => ?_) (AllReadyH.nil)
       rw [if_pos (by rfl)]
       refine wp_alloc_any zeroCt rfl ?_
       intro yp u2 y0 hb yl yt
       have yg := Nat.le_trans hHeld.size yl
       refine hK.out _ _ (hHeld.below hb) (fun hHeld => ?_)
       clear hK K hb yl yt
       try simp only [yA, yB, yC, Act.put, yD, yE, yF]
       refine wpAnyH_ready (rs := [12]) (by kernel_rfl) (by simp) ?_
       refine AllReadyH.cons rfl (fun K hK => ?_) (AllReadyH.nil)
       rw [if_pos (by rfl)]
       refine wp_store_all 60 _ _ rfl (cells := (mbc Km)) y0 rfl rfl sizeCt rfl (mbc_one _) ?_
       intro u3 hn9 hk9
       replace y0 := hn9
       refine hK.out _ _ (below_kp hHeld hk9 yg) (fun hHeld => ?_)
       clear hK K hk9 hn9
       try simp only [yA, yB, yC, Act.put, yD, yE, yF]
       refine wpAnyH_done (by kernel_rfl) ?_ _
       go_wp2_with fail
       go_meet
       exact ⟨yp, rfl, y0, hHeld⟩
      ·rw [if_pos (by rfl)]
       refine wp_alloc_any zeroCt rfl ?_
       intro yp u4 y0 hb yl yt
       have yg := Nat.le_trans hHeld.size yl
       refine hK.out _ _ (hHeld.below hb) (fun hHeld => ?_)
       clear hK K hb yl
       try simp only [yA, yB, yC, Act.put, yD, yE, yF]
       refine wpAnyH_ready (rs := [10]) (by kernel_rfl) (by simp) ?_
       refine AllReadyH.cons rfl (fun K hK => ?_) (AllReadyH.nil)
       have hcz := hHeld.size
       go_simp
       go_wp2_with (refine (pM _ (hTk.below hHeld)).mono ?_; rintro r u5 ⟨rfl, hb⟩)
       replace y0 := y0.below hb
       refine hK.out _ _ (hHeld.below hb) (fun hHeld => ?_)
       clear hK K hb
       refine wpAnyH_ready (rs := [12]) (by kernel_rfl) (by simp) ?_
       refine AllReadyH.cons rfl (fun K hK => ?_) (AllReadyH.nil)
       rw [if_pos (by rfl)]
       refine wp_store_all 60 _ _ rfl (cells := (mbc Km)) y0 rfl rfl sizeCt rfl (mbc_one _) ?_
       intro u6 hn9 hk9
       replace y0 := hn9
       refine hK.out _ _ (below_kp hHeld hk9 yg) (fun hHeld => ?_)
       clear hK K hk9 hn9
       try simp only [yA, yB, yC, Act.put, yD, yE, yF]
       refine wpAnyH_done (by kernel_rfl) ?_ _
       go_wp2_with fail
       go_meet
       exact ⟨yp, rfl, y0, hHeld⟩
     case rest =>
      obtain ⟨y9, rfl, b9, hb⟩ := hcut
      rename World => W7
      replace b7 := b7.below hb
      replace b8 := b8.below hb
      replace hT := hT.below hb
      replace hB := hB.trans (hb.mono hB.size)
      clear hb hTk pM w1 i4 i5
      go_wp2_with (go_big_may; first | refine load_blk rfl 60 _ rfl b9 rfl Tryz.underlying60 rfl sizeCt ?_ | refine load_blk rfl 55 _ rfl b8 rfl Tryz.underlying55 rfl sizeMb ?_)
      refine (pL W7).mono ?_
      rintro r W4 ⟨rfl, hb⟩
      replace b7 := b7.below hb
      replace b8 := b8.below hb
      replace hT := hT.below hb
      replace hB := hB.trans (hb.mono hB.size)
      clear hb pL b9
      go_wp2_with fail
      go_loopw [12] (fun qv wr => ∃ q : Nat, q ≤ 8 ∧ qv = .int .i64 q ∧ Blk ya a.arr 59 wr ∧ Blk y8 (mbc M) 55 wr ∧ Li Td.vals 0 (some ⟨bt, of, none⟩) T wr ∧ Below w.heap.size w wr) (fun qv _ => 8 - (intOf qv).toNat)
      case atStart => exact ⟨0, by omega, rfl, b7, b8, hT, hB⟩
      case round =>
       clear hT hB b7 b8
       obtain ⟨q, hq, rfl, b7, b8, hT, hB⟩ := hrel
       rename World => W9
       by_cases hq8 : q < 8
       ·have q0 : (0 : Int) ≤ (q : Int) := by omega
        have q8 : (q : Int) < 8 := by omega
        have pX := pXX q (M q)
        have pC := pCC q (M q)
        obtain ⟨Kq, hKq⟩ : ∃ K, Hid ((fun d => cnt T q (M q) a.inn d) = K) := ⟨_, rfl⟩
        have hs := hsafe q
        rw [hKq.out] at pC hs
        have pFF := fun x => rfull_ok Kq M (fun d => by rw [← hKq.out]; exact hlt q (M q) d) x
        have hmq : M q ≠ 0 → q ∈ lst M := fun h => (mem_lst _ _).2 ⟨hq8, h⟩
        go_upto_region 15 with fail
        try simp only [Act.put, List.setIfInBounds_toArray, List.set_cons_zero, List.set_cons_succ]
        go_cut [13, 14] from 66 to 76 (fun pv gv wx => ∃ g : Bool, gv = .bool g ∧ Below W9.heap.size W9 wx)
        case first =>
         refine wp_region_held_drew (S := fun w' => Below W9.heap.size W9 w') (by kernel_rfl) (Below.refl _ _).drew (fun hHeld => ?_)
         refine tkH 0 (v := ?v11) rfl (by kernel_rfl) (fun _ _ _ h => h) (Or.inl ⟨by rfl, ?hy11⟩) hHeld ?_
         case hy11 => (intro w hSw; clear hSw; go_simp; try with_reducible rfl)
         try simp only [yA, yB, yC, Act.put, yD, yE, yF]
         refine tkH 1 (v := ?v12) rfl (by kernel_rfl) (fun _ _ _ h => h) (Or.inl ⟨by rfl, ?hy12⟩) hHeld ?_
         case hy12 => (intro w hSw; clear hSw; go_simp; try with_reducible rfl)
         try simp only [yA, yB, yC, Act.put, yD, yE, yF]
         refine tkH 2 (v := ?v13) rfl (by kernel_rfl) (fun _ _ _ h => h) (Or.inl ⟨by rfl, ?hy13⟩) hHeld ?_
         case hy13 => (intro w hSw; clear hSw; go_simp; try with_reducible rfl)
         try simp only [yA, yB, yC, Act.put, yD, yE, yF]
         refine tkH 3 (v := ?v14) rfl (by kernel_rfl) (fun _ _ _ h => h) (Or.inl ⟨by rfl, ?hy14⟩) hHeld ?_
         case hy14 => (intro w hSw; clear hSw; go_simp; try with_reducible rfl)
         try simp only [yA, yB, yC, Act.put, yD, yE, yF]
         refine tkH 4 (v := ?v15) rfl (by kernel_rfl) (fun _ _ _ h => h) (Or.inl ⟨by rfl, ?hy15⟩) hHeld ?_
         case hy15 => (intro w hSw; have hc := (b8.below hSw).cell q (.int .u32 (M q : Int)) (mbc_get M q hq8); clear hSw; go_simp; try with_reducible rfl)
         try simp only [yA, yB, yC, Act.put, yD, yE, yF]
         refine tkH 5 (v := ?v16) rfl (by kernel_rfl) (fun _ _ _ h => h) (Or.inl ⟨by rfl, ?hy16⟩) hHeld ?_
         case hy16 => (intro w hSw; clear hSw; go_simp; try with_reducible rfl)
         try simp only [yA, yB, yC, Act.put, yD, yE, yF]
         refine' tkH 6 (v := _) rfl (by kernel_rfl) (fun _ _ _ h => h) (yieldsIf_load_mid (by rfl) _ _ rfl ya 2 rfl a.inn.vals _ ?hS17 Tryz.underlying51 rfl sizeIdn) hHeld ?_
         case hS17 => exact fun w h => (b7.below h).range 2 _ (Td.p_in a)
         try simp only [yA, yB, yC, Act.put, yD, yE, yF]
         refine wpAnyH_ready (rs := [7, 11]) (by kernel_rfl) (by simp) ?_
         refine AllReadyH.cons rfl (fun K hK => ?_) (AllReadyH.cons rfl (fun K hK => ?_) (AllReadyH.nil))
         ·have hcz := hHeld.size
          go_simp
          go_wp2_with (refine (pX _ (hT.below hHeld)).mono ?_; rintro r u1 ⟨⟨X, g, rfl⟩, hb⟩)
          refine hK.out _ _ (hHeld.below hb) (fun hHeld => ?_)
          clear hK K hb
          refine tkH 8 (v := ?v18) rfl (by kernel_rfl) (fun _ _ _ h => h) (Or.inl ⟨by rfl, ?hy18⟩) hHeld ?_
          case hy18 => (intro w hSw; clear hSw; go_simp; try with_reducible rfl)
          try simp only [yA, yB, yC, Act.put, yD, yE, yF]
          refine tkH 9 (v := ?v19) rfl (by kernel_rfl) (fun _ _ _ h => h) (Or.inl ⟨by rfl, ?hy19⟩) hHeld ?_
          case hy19 => (intro w hSw; clear hSw; go_simp; try with_reducible rfl)
          try simp only [yA, yB, yC, Act.put, yD, yE, yF]
          refine tkH 10 (v := ?v20) rfl (by kernel_rfl) (fun _ _ _ h => h) (Or.inl ⟨by rfl, ?hy20⟩) hHeld ?_
          case hy20 => (intro w hSw; clear hSw; go_simp; try with_reducible rfl)
          try simp only [yA, yB, yC, Act.put, yD, yE, yF]
          refine wpAnyH_ready (rs := [11]) (by kernel_rfl) (by simp) ?_
          refine AllReadyH.cons rfl (fun K hK => ?_) (AllReadyH.nil)
          rw [if_pos (by rfl)]
          refine wp_alloc_any zeroIdn rfl ?_
          intro yp u2 y0 hb yl yt
          have yg := Nat.le_trans hHeld.size yl
          refine hK.out _ _ (hHeld.below hb) (fun hHeld => ?_)
          clear hK K hb yl yt
          try simp only [yA, yB, yC, Act.put, yD, yE, yF]
          refine wpAnyH_ready (rs := [12]) (by kernel_rfl) (by simp) ?_
          refine AllReadyH.cons rfl (fun K hK => ?_) (AllReadyH.nil)
          rw [if_pos (by rfl)]
          refine wp_store_all 51 _ _ rfl (cells := X.arr) y0 rfl rfl sizeIdn rfl (Idn.arr_one _) ?_
          intro u3 hn9 hk9
          replace y0 := hn9
          refine hK.out _ _ (below_kp hHeld hk9 yg) (fun hHeld => ?_)
          clear hK K hk9 hn9
          try simp only [yA, yB, yC, Act.put, yD, yE, yF]
          refine tkH 13 (v := ?v21) rfl (by kernel_rfl) (fun _ _ _ h => h) (Or.inl ⟨by rfl, ?hy21⟩) hHeld ?_
          case hy21 => (intro w hSw; clear hSw; go_simp; try with_reducible rfl)
          try simp only [yA, yB, yC, Act.put, yD, yE, yF]
          refine wpAnyH_done (by kernel_rfl) ?_ _
          go_wp2_with fail
          go_meet
          exact ⟨g, rfl, hHeld⟩
         ·rw [if_pos (by rfl)]
          refine wp_alloc_any zeroIdn rfl ?_
          intro yp u4 y0 hb yl yt
          have yg := Nat.le_trans hHeld.size yl
          refine hK.out _ _ (hHeld.below hb) (fun hHeld => ?_)
          clear hK K hb yl
          try simp only [yA, yB, yC, Act.put, yD, yE, yF]
          refine wpAnyH_ready (rs := [7]) (by kernel_rfl) (by simp) ?_
          refine AllReadyH.cons rfl (fun K hK => ?_) (AllReadyH.nil)
          have hcz := hHeld.size
          go_simp
          go_wp2_with (refine (pX _ (hT.below hHeld)).mono ?_; rintro r u5 ⟨⟨X, g, rfl⟩, hb⟩)
          replace y0 := y0.below hb
          refine hK.out _ _ (hHeld.below hb) (fun hHeld => ?_)
          clear hK K hb
          refine tkH 8 (v := ?v22) rfl (by kernel_rfl) (fun _ _ _ h => h) (Or.inl ⟨by rfl, ?hy22⟩) hHeld ?_
          case hy22 => (intro w hSw; clear hSw; go_simp; try with_reducible rfl)
          try simp only [yA, yB, yC, Act.put, yD, yE, yF]
          refine tkH 9 (v := ?v23) rfl (by kernel_rfl) (fun _ _ _ h => h) (Or.inl ⟨by rfl, ?hy23⟩) hHeld ?_
          case hy23 => (intro w hSw; clear hSw; go_simp; try with_reducible rfl)
          try simp only [yA, yB, yC, Act.put, yD, yE, yF]
          refine tkH 10 (v := ?v24) rfl (by kernel_rfl) (fun _ _ _ h => h) (Or.inl ⟨by rfl, ?hy24⟩) hHeld ?_
          case hy24 => (intro w hSw; clear hSw; go_simp; try with_reducible rfl)
          try simp only [yA, yB, yC, Act.put, yD, yE, yF]
          refine wpAnyH_ready (rs := [12]) (by kernel_rfl) (by simp) ?_
          refine AllReadyH.cons rfl (fun K hK => ?_) (AllReadyH.nil)
          rw [if_pos (by rfl)]
          refine wp_store_all 51 _ _ rfl (cells := X.arr) y0 rfl rfl sizeIdn rfl (Idn.arr_one _) ?_
          intro u6 hn9 hk9
          replace y0 := hn9
          refine hK.out _ _ (below_kp hHeld hk9 yg) (fun hHeld => ?_)
          clear hK K hk9 hn9
          try simp only [yA, yB, yC, Act.put, yD, yE, yF]
          refine tkH 13 (v := ?v25) rfl (by kernel_rfl) (fun _ _ _ h => h) (Or.inl ⟨by rfl, ?hy25⟩) hHeld ?_
          case hy25 => (intro w hSw; clear hSw; go_simp; try with_reducible rfl)
          try simp only [yA, yB, yC, Act.put, yD, yE, yF]
          refine wpAnyH_done (by kernel_rfl) ?_ _
          go_wp2_with fail
          go_meet
          exact ⟨g, rfl, hHeld⟩
        case rest =>
         obtain ⟨g, rfl, hb⟩ := hcut
         rename World => Wa
         replace b7 := b7.below hb
         replace b8 := b8.below hb
         replace hT := hT.below hb
         replace hB := hB.trans (hb.mono hB.size)
         clear hb pX
         have c8 : Wa.cell? ⟨y8, q, none⟩ = some (.int .u32 (M q : Int)) := b8.cell q _ (mbc_get M q hq8)
         by_cases hm0 : M q = 0
         ·have d0 : ((M q : Int) == 0) = true := by simp [hm0]
          clear hm0 hs pFF pC hmq
          go_wp2_with fail
          exact ⟨⟨q + 1, by omega, by go_num, b7, b8, hT, hB⟩, by simp [intOf]; omega⟩
         ·have d0 : ((M q : Int) == 0) = false := by rw [beq_eq_false_iff_ne]; omega
          cases g with
          | false =>
           clear hm0 hs pFF pC hmq
           go_wp2_with fail
           exact ⟨⟨q + 1, by omega, by go_num, b7, b8, hT, hB⟩, by simp [intOf]; omega⟩
          | true =>
           by_cases hl2 : l < 2
           ·have d2 : (l : Int) < 2 := by omega
            clear hm0 hs pFF pC hmq
            go_wp2_with fail
            exact ⟨⟨q + 1, by omega, by go_num, b7, b8, hT, hB⟩, by simp [intOf]; omega⟩
           ·have d2 : ¬ (l : Int) < 2 := by omega
            have hf := hs (hmq hm0) (by omega)
            obtain ⟨r, hr⟩ : ∃ r, Hid (l - 1 = r) := ⟨_, rfl⟩
            have pF := pFF (l - 1)
            rw [hf, hr.out] at pF
            have u1 : IntKind.u32.wrap ((l : Int) - 1) = (r : Int) := by rw [IntKind.wrap_u32, ← hr.out]; omega
            have u2 : IntKind.u64.wrap (r : Int) = (r : Int) := by rw [IntKind.wrap_u64, ← hr.out]; omega
            clear hm0 hs pFF hmq hf
            go_upto_region 17 with fail
            try simp only [Act.put, List.setIfInBounds_toArray, List.set_cons_zero, List.set_cons_succ]
            clear c8 d0 d2
            refine wp_region_held_drew (S := fun w' => Below Wa.heap.size Wa w') (by kernel_rfl) (Below.refl _ _).drew (fun hHeld => ?_)
            refine tkH 0 (v := ?v26) rfl (by kernel_rfl) (fun _ _ _ h => h) (Or.inl ⟨by rfl, ?hy26⟩) hHeld ?_
            case hy26 => (intro w hSw; clear hSw; go_simp; try with_reducible rfl)
            try simp only [yA, yB, yC, Act.put, yD, yE, yF]
            refine tkH 1 (v := ?v27) rfl (by kernel_rfl) (fun _ _ _ h => h) (Or.inl ⟨by rfl, ?hy27⟩) hHeld ?_
            case hy27 => (intro w hSw; clear hSw; go_simp; try with_reducible rfl)
            try simp only [yA, yB, yC, Act.put, yD, yE, yF]
            refine tkH 2 (v := ?v28) rfl (by kernel_rfl) (fun _ _ _ h => h) (Or.inl ⟨by rfl, ?hy28⟩) hHeld ?_
            case hy28 => (intro w hSw; clear hSw; go_simp; try with_reducible rfl)
            try simp only [yA, yB, yC, Act.put, yD, yE, yF]
            refine tkH 3 (v := ?v29) rfl (by kernel_rfl) (fun _ _ _ h => h) (Or.inl ⟨by rfl, ?hy29⟩) hHeld ?_
            case hy29 => (intro w hSw; clear hSw; go_simp; try with_reducible rfl)
            try simp only [yA, yB, yC, Act.put, yD, yE, yF]
            refine tkH 4 (v := ?v30) rfl (by kernel_rfl) (fun _ _ _ h => h) (Or.inl ⟨by rfl, ?hy30⟩) hHeld ?_
            case hy30 => (intro w hSw; have hc := (b8.below hSw).cell q (.int .u32 (M q : Int)) (mbc_get M q hq8); clear hSw; go_simp; try with_reducible rfl)
            try simp only [yA, yB, yC, Act.put, yD, yE, yF]
            refine tkH 5 (v := ?v31) rfl (by kernel_rfl) (fun _ _ _ h => h) (Or.inl ⟨by rfl, ?hy31⟩) hHeld ?_
            case hy31 => (intro w hSw; clear hSw; go_simp; try with_reducible rfl)
            try simp only [yA, yB, yC, Act.put, yD, yE, yF]
            refine' tkH 6 (v := _) rfl (by kernel_rfl) (fun _ _ _ h => h) (yieldsIf_load_mid (by rfl) _ _ rfl ya 2 rfl a.inn.vals _ ?hS32 Tryz.underlying51 rfl sizeIdn) hHeld ?_
            case hS32 => exact fun w h => (b7.below h).range 2 _ (Td.p_in a)
            try simp only [yA, yB, yC, Act.put, yD, yE, yF]
            refine' tkH 8 (v := _) rfl (by kernel_rfl) (fun _ _ _ h => h) (yieldsIf_load_mid (by rfl) _ _ rfl y8 0 rfl (row8 M) _ ?hS33 Tryz.underlying55 rfl sizeMb) hHeld ?_
            case hS33 => exact fun w h => (b8.below h).whole
            try simp only [yA, yB, yC, Act.put, yD, yE, yF]
            refine tkH 9 (v := ?v34) rfl (by kernel_rfl) (fun _ _ _ h => h) (Or.inl ⟨by rfl, ?hy34⟩) hHeld ?_
            case hy34 => (intro w hSw; clear hSw; go_simp; try with_reducible rfl)
            try simp only [yA, yB, yC, Act.put, yD, yE, yF]
            refine tkH 10 (v := ?v35) rfl (by kernel_rfl) (fun _ _ _ h => h) (Or.inl ⟨by rfl, ?hy35⟩) hHeld ?_
            case hy35 => (intro w hSw; clear hSw; go_simp; try with_reducible rfl)
            try simp only [yA, yB, yC, Act.put, yD, yE, yF]
            refine tkH 11 (v := ?v36) rfl (by kernel_rfl) (fun _ _ _ h => h) (Or.inl ⟨by rfl, ?hy36⟩) hHeld ?_
            case hy36 => (intro w hSw; clear hSw; go_simp; try with_reducible rfl)
            try simp only [yA, yB, yC, Act.put, yD, yE, yF]
            refine wpAnyH_ready (rs := [7]) (by kernel_rfl) (by simp) ?_
            refine AllReadyH.cons rfl (fun K hK => ?_) (AllReadyH.nil)
            go_simp
            go_wp2_with (refine (pC _ (hT.below hHeld)).mono ?_; rintro r u1 ⟨rfl, hb⟩)
            refine hK.out _ _ (hHeld.below hb) (fun hHeld => ?_)
            clear hK K hb
            refine wpAnyH_ready (rs := [12]) (by kernel_rfl) (by simp) ?_
            refine AllReadyH.cons rfl (fun K hK => ?_) (AllReadyH.nil)
            go_simp
            go_wp2_with (refine (pF _).mono ?_; rintro r u2 ⟨rfl, hb⟩)
            refine hK.out _ _ (hHeld.below hb) (fun hHeld => ?_)
            clear hK K hb
            refine tkH 13 (v := ?v37) rfl (by kernel_rfl) (fun _ _ _ h => h) (Or.inl ⟨by rfl, ?hy37⟩) hHeld ?_
            case hy37 => (intro w hSw; clear hSw; go_simp; try with_reducible rfl)
            try simp only [yA, yB, yC, Act.put, yD, yE, yF]
            refine wpAnyH_done (by kernel_rfl) ?_ _
            replace hT := hT.below hHeld
            replace hB := hB.trans (hHeld.mono hB.size)
            replace b7 := b7.below hHeld
            replace b8 := b8.below hHeld
            clear hHeld
            go_wp2_with fail
            exact ⟨⟨q + 1, by omega, by go_num, b7, b8, hT, hB⟩, by simp [intOf]; omega⟩
       ·obtain rfl : q = 8 := by omega
        go_wp2_with fail
        exact ⟨⟨i + 1, by omega, by go_num, hT, hB⟩, by simp [intOf]; omega⟩
   ·obtain rfl : i = N := by omega
    go_wp2_with fail
    go_ret
    exact ⟨rfl, hB⟩
set_option maxRecDepth 100000 in
theorem lifted (os : Go.Os) (started : os.Started) (H : Type) (enc : TypeId × Value → H) :
  ReturnsInHanded {} Tryz.checked os 7 .any (Rows.clusterSafeSpec.pre6 enc Tryz.prog Tryz.f7 Rows.clusterSafeRow.domain false) (Rows.clusterSafeSpec.post enc Tryz.prog Tryz.f7 false true false false) := by
 refine returnsInHanded_of_change_sized (C := Tryz.checked) own started (by kernel_rfl) Tryz.func7
  (ChangeSpec.witness6 (enc := enc) (C := Tryz.checked) false ⟨#[], #[.agg (plv 0 0 (.slice none 0 0))], []⟩ 8 (by kernel_rfl) (by kernel_rfl) (by kernel_rfl) (by kernel_rfl)) ?_
 intro W base args ds gs before hval0 hW hcnd hsz0 _
 have hval : ∀ (j : Nat) t v, Tryz.f7.params[j]? = some t → args[j]? = some v → Value.okWide Tryz.prog W .any base t v := hval0
 have hsz : (DataW.weightsEach Tryz.prog (Tryz.f7.params.toList ++ Rows.clusterSafeSpec.plain.varTypes Tryz.prog) (ds ++ gs)).all (· ≤ reachBytes) = true := hsz0
 have hW' := hW
 obtain ⟨p, q, hA0, hV, rfl, hfz, hnd⟩ := hW
 have hA : DataW.TrodAll enc Tryz.prog W 0 (fun _ => true) true Tryz.f7.params.toList args.toList ds p := hA0
 rw [Tryz.params7] at hA hval hsz
 obtain ⟨v0, vs0, d0, ds0, p0, q0, hargs, rfl, rfl, h0, r0⟩ := trodAll_cons hA
 obtain ⟨rfl, rfl, rfl⟩ := trodAll_nil r0
 obtain rfl : args = #[v0] := by cases args; simp_all
 obtain ⟨rfl, rfl⟩ := trodVars_none hV
 obtain ⟨pn0, pw0, D0, da0, dc0, rfl, hc0, hm0, ho0, hD0⟩ := open_play (by obtain ⟨cs, h1, _⟩ := okWide_struct Tryz.underlying24 (hval 0 24 v0 rfl rfl); exact ⟨cs, h1⟩) (fun n hn => of_decide_eq_true (List.all_eq_true.1 hsz _ (DataW.weights_mem_each (j := 0) rfl rfl n hn))) h0
 have hA2 := hA0
 clear hA0 hval0 hsz0
 simp only [List.append_nil] at hW'
 refine (walk pn0 pw0 D0 da0 dc0 hc0 hm0 ho0 W hD0).mono fun e W' ⟨he, bel⟩ => ?_
 subst he
 exact ⟨_, rfl, _, _, _, [], _, [], hW', trodAll_mk1 (shut_bool Tryz.underlying4 _), (stays_all laidOut bel (by kernel_rfl) hA2), rfl, bel.frame _, fun h => by cases h⟩
theorem over : Rows.clusterSafeRow.holds Tryz.pinned (OpenSpec.ofChange Rows.clusterSafeSpec) :=
 OpenClaim.holds_of_wide 7 Tryz.f7 rfl rfl rfl rfl rfl rfl rfl ⟨rfl, rfl, rfl, rfl, rfl⟩ rfl rfl rfl rfl rfl (by kernel_rfl) Tryz.func7 (by kernel_rfl)
  (of_decide_eq_true (by kernel_rfl)) (by unfold Func.isWrapper; first | (rw [if_pos (by decide +kernel)]; kernel_rfl) | (rw [if_neg (by decide +kernel)]; exact ⟨rfl, rfl⟩))
  (fun os started H enc _ => lifted os started H enc)
end Go.Proofs.YthgfpdidilolgaaGreat.clusterSafe
namespace Go.Proofs.YthgfpdidilolgaaGreat
theorem clusterSafe_holds : Rows.ClusterSafeSaid := clusterSafe.over
#print axioms clusterSafe_holds
end Go.Proofs.YthgfpdidilolgaaGreat
