/-
  what is told as a frame of a daemon, in a configuration and round, is the same to all, and is what that daemon was told itself, ahead of it
  For every play, of at most 150 deeds.
-/
import Derived.Test.YthgfpdidilolgaaGreatRows
import Derived.Test.YthgfpdidilolgaaGreatZ39
import Derived.WalkKit
import Derived.ProofKit
import Derived.OpenShut
import Derived.ShutString
import Derived.SizedLaws
import Derived.ChangeOld
import Derived.Below
namespace Go.Proofs.YthgfpdidilolgaaGreat.clusterSends
open Go.Sort Go.ChangeShapes Go.WideShapes Go.ChangeAt Go.RowKit
open Go.ChangeMaps (open_string shut_string)
set_option linter.unusedVariables false
set_option linter.unusedSimpArgs false
set_option maxRecDepth 10000
theorem own : ownKnob Tryz.prog.godebug = none := by kernel_rfl
theorem length_bytes (s : ByteArray) : s.data.toList.length = s.size := by rw [Array.length_toList]; rfl
theorem and7 (d : Nat) (h : d < 8) : bits .and .i64 (d : Int) 7 = (d : Int) := by
 have : d = 0 ∨ d = 1 ∨ d = 2 ∨ d = 3 ∨ d = 4 ∨ d = 5 ∨ d = 6 ∨ d = 7 := by omega
 rcases this with rfl | rfl | rfl | rfl | rfl | rfl | rfl | rfl <;> decide
set_option maxHeartbeats 16000000 in
theorem walk (pn pw : Int) (D : List De) (da : Option Addr) (dc : Nat) (hDc : D.length ≤ dc) (hDm : dc ≤ maxLen) (hDo : ∀ d ∈ D, d.ok) (w : World) (hD : Li De.vals 0 da D w) :
  Calls Tryz.prog 5 #[.agg (plv pn pw (.slice da D.length dc))] w fun e w' => e = .returned (.bool true) ∧ Below w.heap.size w w' := by
 have hDm2 : D.length ≤ 9223372036854775807 := Nat.le_trans hDc hDm
 cases hbeg : begB pn pw with
 | false =>
  have pP := played_no pn pw (.slice da D.length dc) hbeg
  obtain ⟨v, ev⟩ : ∃ v, Hid (plv pn pw (.slice da D.length dc) = v) := ⟨_, rfl⟩
  have hv : (Tryz.prog.info? 24).map (·.size) = some v.size := by rw [← ev.out]; exact sizePy
  rw [ev.out] at pP ⊢
  have b0 := blk_new w v 24
  have hB := below_box w (.cells v 24)
  clear ev hD hDo
  go_enter Tryz.func5, Tryz.ntmps5
  go_upto_region 1 with fail
  generalize w.alloc (Obj.cells v 24) = V at b0 hB ⊢
  go_wp2_with (refine load_blk rfl 24 _ rfl b0 rfl Tryz.underlying24 rfl hv ?_)
  refine (pP _).mono ?_
  rintro r w1 ⟨rfl, hb⟩
  replace hB := hB.trans (hb.mono hB.size)
  have hb2 := below_box w1 (.cells (clc 0 (.slice none 0 0) (.slice none 0 0) (.slice none 0 0)) 29)
  clear pP hb
  go_upto_region 2 with (go_big_may; first | refine alloc_zero zeroCl rfl rfl ?_ | refine store_new rfl 29 _ _ rfl (cells := (clc 0 (.slice none 0 0) (.slice none 0 0) (.slice none 0 0))) rfl rfl sizeCl rfl (clc_one _ _ _ _ _ _ _ _ _ _) ?_)
  try simp only [Act.put, List.setIfInBounds_toArray, List.set_cons_zero, List.set_cons_succ]
  generalize w1.alloc (Obj.cells (clc 0 (.slice none 0 0) (.slice none 0 0) (.slice none 0 0)) 29) = w2 at hb2 ⊢
  replace hB := hB.trans (hb2.mono hB.size)
  go_wp2_with fail
  refine (ufixed_ok _).mono ?_
  rintro r w3 ⟨rfl, hb⟩
  replace hB := hB.trans (hb.mono hB.size)
  clear hb hb2
  go_wp2_with fail
  refine (ufixed_ok _).mono ?_
  rintro r w4 ⟨rfl, hb⟩
  replace hB := hB.trans (hb.mono hB.size)
  clear hb
  go_wp2_with fail
  go_ret
  exact ⟨rfl, hB⟩
 | true =>
  obtain ⟨n, rfl⟩ : ∃ n : Nat, pn = (n : Int) := ⟨pn.toNat, by unfold begB at hbeg; rw [decide_eq_true_eq] at hbeg; omega⟩
  have pP := fun u' hu => played_yes n pw D da dc hbeg u' hu hDc hDm2 hDo
  obtain ⟨v, ev⟩ : ∃ v, Hid (plv (n : Int) pw (.slice da D.length dc) = v) := ⟨_, rfl⟩
  have hv : (Tryz.prog.info? 24).map (·.size) = some v.size := by rw [← ev.out]; exact sizePy
  rw [ev.out] at pP ⊢
  have b0 := blk_new w v 24
  have hB := below_box w (.cells v 24)
  clear ev hDo
  go_enter Tryz.func5, Tryz.ntmps5
  go_upto_region 1 with fail
  generalize w.alloc (Obj.cells v 24) = V at b0 hB ⊢
  go_wp2_with (refine load_blk rfl 24 _ rfl b0 rfl Tryz.underlying24 rfl hv ?_)
  refine (pP _ (hD.below hB)).mono ?_
  rintro r w1 ⟨⟨S, C, ta, tc, rfl, hC1, hC2, ⟨k0, G, hJ⟩, hN6, hT⟩, hb⟩
  replace hB := hB.trans (hb.mono hB.size)
  have hsC : (Tryz.prog.info? 29).map (·.size) = some C.size := by rw [hC1]; exact sizeCl
  have hb2 := below_box w1 (.cells C 29)
  obtain ⟨T, eT⟩ : ∃ T, Hid (S.t = T) := ⟨_, rfl⟩
  rw [eT.out] at hT hN6 ⊢
  obtain ⟨N, eN⟩ : ∃ N, Hid (T.length = N) := ⟨_, rfl⟩
  rw [eN.out] at hN6 ⊢
  obtain ⟨hN6, hNc⟩ := hN6
  have hn8 := hJ.n8
  have HG : Hid (GI n G T) := by
   have := hJ.g
   rw [eT.out] at this
   exact this
  clear pP hb hJ eT hD hDc hDm hDm2 b0 hbeg hv
  go_upto_region 2 with (go_big_may; first | refine alloc_zero zeroCl rfl rfl ?_ | refine store_new rfl 29 _ _ rfl (cells := C) rfl rfl hsC hC1.symm hC2 ?_)
  try simp only [Act.put, List.setIfInBounds_toArray, List.set_cons_zero, List.set_cons_succ]
  generalize w1.alloc (Obj.cells C 29) = w2 at hb2 ⊢
  replace hB := hB.trans (hb2.mono hB.size)
  replace hT := (hT.below hb2).mono (Nat.zero_le _)
  go_wp2_with fail
  refine (ufixed_ok _).mono ?_
  rintro r w3 ⟨rfl, hb⟩
  replace hB := hB.trans (hb.mono hB.size)
  replace hT := hT.below hb
  clear hb hb2 hC1 hC2 hsC
  go_wp2_with fail
  go_loopw [6] (fun iv wr => ∃ i : Nat, i ≤ N ∧ iv = .int .i64 i ∧ Li Td.vals 0 ta T wr ∧ Below w.heap.size w wr) (fun iv _ => N - (intOf iv).toNat)
  case atStart => exact ⟨0, by omega, rfl, hT, hB⟩
  case round =>
   clear hT hB
   obtain ⟨i, hi, rfl, hT, hB⟩ := hrel
   by_cases hin : i < N
   ·have i0 : (i : Int) < (N : Int) := by omega
    have i1 : (0 : Int) ≤ (i : Int) := by omega
    have i2 : (i : Int) + 1 < 1000 := by omega
    obtain ⟨a, ha⟩ : ∃ a, T[i]? = some a := ⟨_, List.getElem?_eq_getElem (by rw [eN.out]; exact hin)⟩
    have hTO : Hid (TO (T.take i) a) := HG.out.tt (T.take i) a (T.drop (i + 1)) (by rw [← List.drop_eq_getElem_cons2 ha, List.take_append_drop])
    obtain ⟨bt, of, rfl, _, hbl, hr⟩ := hT.at Td.vals_length i a ha
    have hb := below_box wr (.cells a.arr 59)
    have b7 := blk_new wr a.arr 59
    go_upto_region 8 with (go_big_may; first | refine load_range rfl 59 _ rfl (o := of + i * 55) a.vals hr rfl Tryz.underlying59 rfl sizeTd ?_ | refine alloc_zero zeroTd rfl rfl ?_ | refine store_new rfl 59 _ _ rfl (cells := a.arr) rfl rfl sizeTd rfl a.arr_one ?_)
    try simp only [Act.put, List.setIfInBounds_toArray, List.set_cons_zero, List.set_cons_succ]
    generalize wr.alloc (Obj.cells a.arr 59) = W5 at b7 hb ⊢
    replace hT := hT.below hb
    replace hB := hB.trans (hb.mono hB.size)
    clear hr hbl hb ha
    generalize wr.heap.size = ya at b7 ⊢
    cases hv : a.h.view with
    | true =>
     have c5 : W5.cell? ⟨ya, 5, none⟩ = some (.bool true) := by rw [← hv]; exact b7.cell 5 _ rfl
     go_wp2_with fail
     exact ⟨⟨i + 1, by omega, by go_num, hT, hB⟩, by simp [intOf]; omega⟩
    | false =>
     have c5 : W5.cell? ⟨ya, 5, none⟩ = some (.bool false) := by rw [← hv]; exact b7.cell 5 _ rfl
     have c0 : W5.cell? ⟨ya, 0, none⟩ = some (.int .i64 (a.who : Int)) := b7.cell 0 _ rfl
     have c6 : W5.cell? ⟨ya, 6, none⟩ = some (.int .i64 a.h.k.fr) := b7.cell 6 _ rfl
     obtain ⟨ow0, how0⟩ : ∃ o : Bool, ((a.who : Int) == a.h.k.fr) = o := ⟨_, rfl⟩
     have HO0 : Hid (ow0 = true ↔ (a.h.k.fr = (a.who : Int) ∨ ∃ b ∈ T.take 0, keyed a b ∧ a.h.k.fr = (b.who : Int))) := by
      show _ ↔ _
      rw [← how0]
      simp
      exact eq_comm
     go_wp2_with fail
     clear how0 c5 c0 c6
     go_loopw [8, 9] (fun ov kv wr => ∃ (k : Nat) (ow : Bool), k ≤ i ∧ kv = .int .i64 k ∧ ov = .bool ow ∧ Hid (ow = true ↔ (a.h.k.fr = (a.who : Int) ∨ ∃ b ∈ T.take k, keyed a b ∧ a.h.k.fr = (b.who : Int))) ∧ Blk ya a.arr 59 wr ∧ Li Td.vals 0 (some ⟨bt, of, none⟩) T wr ∧ Below w.heap.size w wr) (fun _ kv _ => i - (intOf kv).toNat)
     case atStart => exact ⟨0, ow0, by omega, rfl, rfl, HO0, b7, hT, hB⟩
     case round =>
      clear hT hB b7 HO0
      obtain ⟨k, ow, hk, rfl, rfl, HO, b7, hT, hB⟩ := hrel
      by_cases hki : k < i
      ·have k0 : (k : Int) < (i : Int) := by omega
       have k1 : (0 : Int) ≤ (k : Int) := by omega
       have k2 : (k : Int) < (N : Int) := by omega
       obtain ⟨b, hb⟩ : ∃ b, T[k]? = some b := ⟨_, List.getElem?_eq_getElem (by rw [eN.out]; omega)⟩
       have hbm : b ∈ T.take i := List.mem_of_getElem? (i := k) (by rw [List.getElem?_take, if_pos hki]; exact hb)
       have hr2 := hT.rng Td.vals_length k b hb
       have hb5 := below_box wr (.cells b.arr 59)
       have b9 := blk_new wr b.arr 59
       go_upto_region 14 with (go_big_may; first | refine load_range rfl 59 _ rfl (o := of + k * 55) b.vals hr2 rfl Tryz.underlying59 rfl sizeTd ?_ | refine alloc_zero zeroTd rfl rfl ?_ | refine store_new rfl 59 _ _ rfl (cells := b.arr) rfl rfl sizeTd rfl b.arr_one ?_)
       try simp only [Act.put, List.setIfInBounds_toArray, List.set_cons_zero, List.set_cons_succ]
       generalize wr.alloc (Obj.cells b.arr 59) = W6 at b9 hb5 ⊢
       replace b7 := b7.below hb5
       replace hT := hT.below hb5
       replace hB := hB.trans (hb5.mono hB.size)
       clear hr2 hb5
       generalize wr.heap.size = yb at b9 ⊢
       have HO1 : ¬ keyed a b → Hid (ow = true ↔ (a.h.k.fr = (a.who : Int) ∨ ∃ b ∈ T.take (k + 1), keyed a b ∧ a.h.k.fr = (b.who : Int))) := fun hn => by
        show _ ↔ _
        rw [HO.out, List.take_add_one, hb]
        constructor
        ·rintro (h | ⟨c, h1, h2⟩)
         ·exact .inl h
         ·exact .inr ⟨c, List.mem_append_left _ h1, h2⟩
        ·rintro (h | ⟨c, h1, h2⟩)
         ·exact .inl h
         ·rcases List.mem_append.1 h1 with h1 | h1
          ·exact .inr ⟨c, h1, h2⟩
          ·simp at h1
           subst h1
           exact absurd h2.1 hn
       have fin : keyed a b → frv b.h.k.f = frv a.h.k.f ∧ b.who ≠ a.who ∧ ∀ o2 : Bool, ((b.who : Int) == a.h.k.fr) = o2 → Hid ((ow || o2) = true ↔ (a.h.k.fr = (a.who : Int) ∨ ∃ b ∈ T.take (k + 1), keyed a b ∧ a.h.k.fr = (b.who : Int))) := fun hk9 => by
        obtain ⟨x1, x2⟩ := hTO.out.f hv b hbm hk9
        refine ⟨?_, x2, fun o2 ho2 => ?_⟩
        ·unfold frv
         rw [x1 0 (by omega), x1 1 (by omega), x1 2 (by omega), x1 3 (by omega), x1 4 (by omega), x1 5 (by omega)]
        ·show _ ↔ _
         rw [Bool.or_eq_true, HO.out, ← ho2, beq_iff_eq, List.take_add_one, hb]
         constructor
         ·rintro ((h | ⟨c, h1, h2⟩) | h)
          ·exact .inl h
          ·exact .inr ⟨c, List.mem_append_left _ h1, h2⟩
          ·exact .inr ⟨b, List.mem_append_right _ (by simp), hk9, h.symm⟩
         ·rintro (h | ⟨c, h1, h2⟩)
          ·exact .inl (.inl h)
          ·rcases List.mem_append.1 h1 with h1 | h1
           ·exact .inl (.inr ⟨c, h1, h2⟩)
           ·simp at h1
            subst h1
            exact .inr h2.2.symm
       clear hb hbm HO
       cases hvb : b.h.view with
       | true =>
        have d2 : W6.cell? ⟨yb, 5, none⟩ = some (.bool true) := by rw [← hvb]; exact b9.cell 5 _ rfl
        have HO' := HO1 (fun h => by rw [h.1] at hvb; cases hvb)
        clear HO1 fin b9
        go_wp2_with fail
        exact ⟨⟨k + 1, ow, by omega, by go_num, rfl, HO', b7, hT, hB⟩, by simp [intOf]; omega⟩
       | false =>
        have d2 : W6.cell? ⟨yb, 5, none⟩ = some (.bool false) := by rw [← hvb]; exact b9.cell 5 _ rfl
        have zb2 : W6.cell? ⟨yb, 2, none⟩ = some (.int .u32 (b.inn.e : Int)) := b9.cell 2 _ rfl
        have zb3 : W6.cell? ⟨yb, 3, none⟩ = some (.int .u32 (b.inn.c : Int)) := b9.cell 3 _ rfl
        have zb4 : W6.cell? ⟨yb, 4, none⟩ = some (.int .u32 (b.inn.i : Int)) := b9.cell 4 _ rfl
        have za2 : W6.cell? ⟨ya, 2, none⟩ = some (.int .u32 (a.inn.e : Int)) := b7.cell 2 _ rfl
        have za3 : W6.cell? ⟨ya, 3, none⟩ = some (.int .u32 (a.inn.c : Int)) := b7.cell 3 _ rfl
        have za4 : W6.cell? ⟨ya, 4, none⟩ = some (.int .u32 (a.inn.i : Int)) := b7.cell 4 _ rfl
        obtain ⟨sI, hsI⟩ : ∃ s, Idn.same b.inn a.inn = s := ⟨_, rfl⟩
        have kI : ∀ w, (binOp .neq 51 (.agg #[.int .u32 (b.inn.e : Int), .int .u32 (b.inn.c : Int), .int .u32 (b.inn.i : Int)]) (.agg #[.int .u32 (a.inn.e : Int), .int .u32 (a.inn.c : Int), .int .u32 (a.inn.i : Int)])).run Tryz.prog w = .ok (.bool (!sI)) w := neqIdn _ _ sI hsI
        cases sI with
        | false =>
         have HO' := HO1 (fun h => by rw [(Idn.same_iff _ _).2 h.2.1] at hsI; cases hsI)
         clear HO1 fin b9
         go_wp2_with fail
         exact ⟨⟨k + 1, ow, by omega, by go_num, rfl, HO', b7, hT, hB⟩, by simp [intOf]; omega⟩
        | true =>
         have hii := (Idn.same_iff _ _).1 hsI
         have d6 : W6.cell? ⟨yb, 6, none⟩ = some (.int .i64 b.h.k.fr) := b9.cell 6 _ rfl
         have e6 : W6.cell? ⟨ya, 6, none⟩ = some (.int .i64 a.h.k.fr) := b7.cell 6 _ rfl
         clear hsI
         by_cases hff : b.h.k.fr = a.h.k.fr
         ·have g6 : (b.h.k.fr != a.h.k.fr) = false := by simp [hff]
          have d7 : W6.cell? ⟨yb, 7, none⟩ = some (.int .u32 (b.h.k.rd : Int)) := b9.cell 7 _ rfl
          have e7 : W6.cell? ⟨ya, 7, none⟩ = some (.int .u32 (a.h.k.rd : Int)) := b7.cell 7 _ rfl
          by_cases hrr : b.h.k.rd = a.h.k.rd
          ·have g7 : ((b.h.k.rd : Int) != (a.h.k.rd : Int)) = false := by simp [hrr]
           obtain ⟨x1, x2, x3⟩ := fin ⟨hvb, hii, hff, hrr⟩
           clear fin HO1 hff hrr hii
           go_upto_region 15 with fail
           try simp only [Act.put, List.setIfInBounds_toArray, List.set_cons_zero, List.set_cons_succ]
           have pb := Td.p_frame b
           rw [x1] at pb
           have pa := Td.p_frame a
           have kF : ∀ w, (binOp .neq 43 (.agg (frv a.h.k.f).toArray) (.agg (frv a.h.k.f).toArray)).run Tryz.prog w = .ok (.bool false) w := neqFr _
           have g9 : ((b.who : Int) == (a.who : Int)) = false := by rw [beq_eq_false_iff_ne]; omega
           have d0 : W6.cell? ⟨yb, 0, none⟩ = some (.int .i64 (b.who : Int)) := b9.cell 0 _ rfl
           have e0 : W6.cell? ⟨ya, 0, none⟩ = some (.int .i64 (a.who : Int)) := b7.cell 0 _ rfl
           obtain ⟨o2, ho2⟩ : ∃ o2 : Bool, ((b.who : Int) == a.h.k.fr) = o2 := ⟨_, rfl⟩
           have HO' := x3 o2 ho2
           clear x3 x2 x1 hvb
           go_upto_region 17 with (go_big_may; first | refine load_part rfl 43 _ rfl (o := 8) b9 rfl (frv a.h.k.f) pb Tryz.underlying43 rfl sizeFr ?_ | refine load_part rfl 43 _ rfl (o := 8) b7 rfl (frv a.h.k.f) pa Tryz.underlying43 rfl sizeFr ?_)
           try simp only [Act.put, List.setIfInBounds_toArray, List.set_cons_zero, List.set_cons_succ]
           clear kF pa pb kI b9
           cases ow with
           | true =>
            go_wp2_with fail
            exact ⟨⟨k + 1, true, by omega, by go_num, rfl, by simpa using HO', b7, hT, hB⟩, by simp [intOf]; omega⟩
           | false =>
            go_wp2_with fail
            exact ⟨⟨k + 1, o2, by omega, by go_num, rfl, by simpa using HO', b7, hT, hB⟩, by simp [intOf]; omega⟩
          ·have g7 : ((b.h.k.rd : Int) != (a.h.k.rd : Int)) = true := by simp; omega
           have HO' := HO1 (fun h => hrr h.2.2.2)
           clear HO1 fin b9
           go_wp2_with fail
           exact ⟨⟨k + 1, ow, by omega, by go_num, rfl, HO', b7, hT, hB⟩, by simp [intOf]; omega⟩
         ·have g6 : (b.h.k.fr != a.h.k.fr) = true := by simpa using hff
          have HO' := HO1 (fun h => hff h.2.2.1)
          clear HO1 fin b9
          go_wp2_with fail
          exact ⟨⟨k + 1, ow, by omega, by go_num, rfl, HO', b7, hT, hB⟩, by simp [intOf]; omega⟩
      ·obtain rfl : k = i := by omega
       obtain rfl : ow = true := by rw [HO.out]; exact hTO.out.o hv
       go_wp2_with fail
       exact ⟨⟨k + 1, by omega, by go_num, hT, hB⟩, by simp [intOf]; omega⟩
   ·obtain rfl : i = N := by omega
    go_wp2_with fail
    go_ret
    exact ⟨rfl, hB⟩
set_option maxRecDepth 100000 in
theorem lifted (os : Go.Os) (started : os.Started) (H : Type) (enc : TypeId × Value → H) :
  ReturnsInHanded {} Tryz.checked os 5 .any (Rows.clusterSendsSpec.pre6 enc Tryz.prog Tryz.f5 Rows.clusterSendsRow.domain false) (Rows.clusterSendsSpec.post enc Tryz.prog Tryz.f5 false true false false) := by
 refine returnsInHanded_of_change_sized (C := Tryz.checked) own started (by kernel_rfl) Tryz.func5
  (ChangeSpec.witness6 (enc := enc) (C := Tryz.checked) false ⟨#[], #[.agg (plv 0 0 (.slice none 0 0))], []⟩ 8 (by kernel_rfl) (by kernel_rfl) (by kernel_rfl) (by kernel_rfl)) ?_
 intro W base args ds gs before hval0 hW hcnd hsz0 _
 have hval : ∀ (j : Nat) t v, Tryz.f5.params[j]? = some t → args[j]? = some v → Value.okWide Tryz.prog W .any base t v := hval0
 have hsz : (DataW.weightsEach Tryz.prog (Tryz.f5.params.toList ++ Rows.clusterSendsSpec.plain.varTypes Tryz.prog) (ds ++ gs)).all (· ≤ reachBytes) = true := hsz0
 have hW' := hW
 obtain ⟨p, q, hA0, hV, rfl, hfz, hnd⟩ := hW
 have hA : DataW.TrodAll enc Tryz.prog W 0 (fun _ => true) true Tryz.f5.params.toList args.toList ds p := hA0
 rw [Tryz.params5] at hA hval hsz
 obtain ⟨v0, vs0, d0, ds0, p0, q0, hargs, rfl, rfl, h0, r0⟩ := trodAll_cons hA
 obtain ⟨rfl, rfl, rfl⟩ := trodAll_nil r0
 obtain rfl : args = #[v0] := by cases args; simp_all
 obtain ⟨rfl, rfl⟩ := trodVars_none hV
 obtain ⟨pn0, pw0, D0, da0, dc0, rfl, hc0, hm0, ho0, hD0⟩ := open_play (by obtain ⟨cs, h1, _⟩ := okWide_struct Tryz.underlying24 (hval 0 24 v0 rfl rfl); exact ⟨cs, h1⟩) (fun n hn => of_decide_eq_true (List.all_eq_true.1 hsz _ (DataW.weights_mem_each (j := 0) rfl rfl n hn))) h0
 have hA2 := hA0
 clear hA0 hval0 hsz0
 simp only [List.append_nil] at hW'
 refine (walk pn0 pw0 D0 da0 dc0 hc0 hm0 ho0 W hD0).mono fun e W' ⟨he, bel⟩ => ?_
 subst he
 exact ⟨_, rfl, _, _, _, [], _, [], hW', trodAll_mk1 (shut_bool Tryz.underlying4 _), (stays_all laidOut bel (by kernel_rfl) hA2), rfl, bel.frame _, fun h => by cases h⟩
theorem over : Rows.clusterSendsRow.holds Tryz.pinned (OpenSpec.ofChange Rows.clusterSendsSpec) :=
 OpenClaim.holds_of_wide 5 Tryz.f5 rfl rfl rfl rfl rfl rfl rfl ⟨rfl, rfl, rfl, rfl, rfl⟩ rfl rfl rfl rfl rfl (by kernel_rfl) Tryz.func5 (by kernel_rfl)
  (of_decide_eq_true (by kernel_rfl)) (by unfold Func.isWrapper; first | (rw [if_pos (by decide +kernel)]; kernel_rfl) | (rw [if_neg (by decide +kernel)]; exact ⟨rfl, rfl⟩))
  (fun os started H enc _ => lifted os started H enc)
end Go.Proofs.YthgfpdidilolgaaGreat.clusterSends
namespace Go.Proofs.YthgfpdidilolgaaGreat
theorem clusterSends_holds : Rows.ClusterSendsSaid := clusterSends.over
#print axioms clusterSends_holds
end Go.Proofs.YthgfpdidilolgaaGreat
