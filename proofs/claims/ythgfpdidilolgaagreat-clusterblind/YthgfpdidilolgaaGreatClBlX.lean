/-
  Of the texts beneath these laws, in their order: ClBl.
  Each theorem says its own conditions.
-/
import Derived.Test.YthgfpdidilolgaaGreatZ35
import Derived.Test.YthgfpdidilolgaaGreatCfIX
namespace Go.Proofs.YthgfpdidilolgaaGreat
set_option maxRecDepth 10000
open Go.RowKit Go.Sort
set_option linter.unusedVariables false
set_option linter.unusedSimpArgs false
theorem sameKt8 (x : Kt) (w : World) : (Op.equalIn 9998 53 (.agg x.arr) (.agg x.arr)).run Tryz.prog w = .ok true w := by
 have hu : Tryz.prog.underlying 53 = some (.struct (Tryz.prog.fieldsOf 53)) := by kernel_rfl
 rw [show (9998 : Nat) = 9997 + 1 from rfl, run_equalIn_struct w 9997 53 x.arr x.arr hu (by kernel_rfl)]
 apply fields_same
 have hf : (Tryz.prog.fieldsOf 53).toList.map (fun f => (f.name, f.type, f.offset)) = [("From", 3, 0), ("Round", 37, 1), ("Frame", 43, 2)] := by kernel_rfl
 intro f hmem
 have hm : (f.name, f.type, f.offset) ∈ (Tryz.prog.fieldsOf 53).toList.map (fun f => (f.name, f.type, f.offset)) := List.mem_map_of_mem (f := fun f : Field => (f.name, f.type, f.offset)) hmem
 rw [hf] at hm
 generalize f.name = fn at hm ⊢
 generalize f.type = ft at hm ⊢
 generalize f.offset = fo at hm ⊢
 simp only [List.mem_cons, List.not_mem_nil, or_false, Prod.mk.injEq] at hm
 rcases hm with ⟨rfl, rfl, rfl⟩ | ⟨rfl, rfl, rfl⟩ | ⟨rfl, rfl, rfl⟩
 ·exact ⟨by decide, .int .i64 x.fr, by kernel_rfl, by simp [go_sem]⟩
 ·exact ⟨by decide, .int .u32 (x.rd : Int), by kernel_rfl, by simp [go_sem]⟩
 ·exact ⟨by decide, .agg (frc x.f), by kernel_rfl, sameFr x.f 9993 w⟩
theorem sameHp9 (x : Hp) (w : World) : (Op.equalIn 9999 57 (.agg x.arr) (.agg x.arr)).run Tryz.prog w = .ok true w := by
 have hu : Tryz.prog.underlying 57 = some (.struct (Tryz.prog.fieldsOf 57)) := by kernel_rfl
 rw [show (9999 : Nat) = 9998 + 1 from rfl, run_equalIn_struct w 9998 57 x.arr x.arr hu (by kernel_rfl)]
 apply fields_same
 have hf : (Tryz.prog.fieldsOf 57).toList.map (fun f => (f.name, f.type, f.offset)) = [("View", 4, 0), ("Kept", 53, 1), ("Conf", 51, 39), ("Members", 55, 42)] := by kernel_rfl
 intro f hmem
 have hm : (f.name, f.type, f.offset) ∈ (Tryz.prog.fieldsOf 57).toList.map (fun f => (f.name, f.type, f.offset)) := List.mem_map_of_mem (f := fun f : Field => (f.name, f.type, f.offset)) hmem
 rw [hf] at hm
 generalize f.name = fn at hm ⊢
 generalize f.type = ft at hm ⊢
 generalize f.offset = fo at hm ⊢
 simp only [List.mem_cons, List.not_mem_nil, or_false, Prod.mk.injEq] at hm
 rcases hm with ⟨rfl, rfl, rfl⟩ | ⟨rfl, rfl, rfl⟩ | ⟨rfl, rfl, rfl⟩ | ⟨rfl, rfl, rfl⟩
 ·exact ⟨by decide, .bool x.view, by kernel_rfl, by simp [go_sem]⟩
 ·exact ⟨by decide, .agg x.k.arr, by kernel_rfl, sameKt8 x.k w⟩
 ·exact ⟨by decide, .agg x.conf.arr, by kernel_rfl, equalIdnIn 9996 x.conf w⟩
 ·exact ⟨by decide, .agg (mbc x.mem), by kernel_rfl, by rw [show (9998 : Nat) = 9996 + 1 + 1 from rfl, equalRow Tryz.underlying55 9996, mbSame_self]⟩
theorem sameTd (x : Td) (w : World) : (Op.equalIn 10000 59 (.agg x.arr) (.agg x.arr)).run Tryz.prog w = .ok true w := by
 have hu : Tryz.prog.underlying 59 = some (.struct (Tryz.prog.fieldsOf 59)) := by kernel_rfl
 rw [show (10000 : Nat) = 9999 + 1 from rfl, run_equalIn_struct w 9999 59 x.arr x.arr hu (by kernel_rfl)]
 apply fields_same
 have hf : (Tryz.prog.fieldsOf 59).toList.map (fun f => (f.name, f.type, f.offset)) = [("Who", 3, 0), ("Inc", 37, 1), ("In", 51, 2), ("What", 57, 5)] := by kernel_rfl
 intro f hmem
 have hm : (f.name, f.type, f.offset) ∈ (Tryz.prog.fieldsOf 59).toList.map (fun f => (f.name, f.type, f.offset)) := List.mem_map_of_mem (f := fun f : Field => (f.name, f.type, f.offset)) hmem
 rw [hf] at hm
 generalize f.name = fn at hm ⊢
 generalize f.type = ft at hm ⊢
 generalize f.offset = fo at hm ⊢
 simp only [List.mem_cons, List.not_mem_nil, or_false, Prod.mk.injEq] at hm
 rcases hm with ⟨rfl, rfl, rfl⟩ | ⟨rfl, rfl, rfl⟩ | ⟨rfl, rfl, rfl⟩ | ⟨rfl, rfl, rfl⟩
 ·exact ⟨by decide, .int .i64 (x.who : Int), by kernel_rfl, by simp [go_sem]⟩
 ·exact ⟨by decide, .int .u32 (x.inc : Int), by kernel_rfl, by simp [go_sem]⟩
 ·exact ⟨by decide, .agg x.inn.arr, by kernel_rfl, equalIdnIn 9997 x.inn w⟩
 ·exact ⟨by decide, .agg x.h.arr, by kernel_rfl, sameHp9 x.h w⟩
theorem neqTd (x : Td) (w : World) : (binOp .neq 59 (.agg x.arr) (.agg x.arr)).run Tryz.prog w = .ok (.bool false) w := by
 rw [run_neq_struct, sameTd]; rfl
set_option maxHeartbeats 1000000 in
theorem rsameTd_ok (L : List Td) (la lb : Option Addr) (lc ld : Nat) (lm : L.length ≤ 9223372036854775807) (w : World) (hA : Li Td.vals 0 la L w) (hC : Li Td.vals 0 lb L w) : Calls Tryz.prog 15 #[.slice la L.length lc, .slice lb L.length ld] w fun e w' => e = .returned (.bool true) ∧ Below w.heap.size w w' := by
 obtain ⟨n, hn⟩ : ∃ n, Hid (L.length = n) := ⟨_, rfl⟩
 rw [hn.out] at lm ⊢
 have n0 : ((n : Int) != (n : Int)) = false := by simp
 go_enter Tryz.func15, Tryz.ntmps15
 go_wp2_with fail
 clear n0
 go_loopw [5] (fun iv wr => ∃ j : Nat, j ≤ n ∧ iv = .int .i64 j ∧ Li Td.vals 0 la L wr ∧ Li Td.vals 0 lb L wr ∧ Below w.heap.size w wr) (fun iv _ => n - (intOf iv).toNat)
 case atStart => exact ⟨0, by omega, rfl, hA, hC, Below.refl _ _⟩
 case round =>
  clear hA hC
  obtain ⟨j, hj, rfl, hA, hC, hB⟩ := hrel
  by_cases hjn : j < n
  ·have j0 : (j : Int) < (n : Int) := by omega
   have j1 : (0 : Int) ≤ (j : Int) := by omega
   obtain ⟨k, hk⟩ : ∃ k, L[j]? = some k := ⟨_, List.getElem?_eq_getElem (by rw [hn.out]; exact hjn)⟩
   obtain ⟨b, o, rfl, _, hbl, hr⟩ := hA.at Td.vals_length j k hk
   obtain ⟨b', o', rfl, _, hbl', hr'⟩ := hC.at Td.vals_length j k hk
   have kK : ∀ w, (binOp .neq 59 (.agg k.vals.toArray) (.agg k.vals.toArray)).run Tryz.prog w = .ok (.bool false) w := neqTd k
   have la : ∀ w', (∃ p : Regrown, w' = grow (redrawn wr p.d) p.os) → w'.rangeAt b (o + j * 55) k.vals := fun w' ⟨p, e⟩ => e ▸ range_block hr ((below_regrown wr p.d p.os).block b hbl)
   have lb : ∀ w', (∃ p : Regrown, w' = grow (redrawn wr p.d) p.os) → w'.rangeAt b' (o' + j * 55) k.vals := fun w' ⟨p, e⟩ => e ▸ range_block hr' ((below_regrown wr p.d p.os).block b' hbl')
   clear hk hr hr' hbl hbl'
   go_upto_region 6 with fail
   try simp only [Act.put, List.setIfInBounds_toArray, List.set_cons_zero, List.set_cons_succ]
   refine wp_region_quiet_below (by kernel_rfl) (by kernel_rfl) ?_
   repeat (first
    | (go_big_quiet_want; refine quiet_range (off := o + j * 55) rfl rfl la Tryz.underlying59 rfl sizeTd ?_; simp only [Act.put, List.setIfInBounds_toArray, List.set_cons_zero, List.set_cons_succ]; go_big_quiet_on)
    | (go_big_quiet_want; refine quiet_range (off := o' + j * 55) rfl rfl lb Tryz.underlying59 rfl sizeTd ?_; simp only [Act.put, List.setIfInBounds_toArray, List.set_cons_zero, List.set_cons_succ]; go_big_quiet_on)
    | go_big_quiet_step (fail))
   refine wpQuiet_nil ?_
   intro _ hw'
   obtain ⟨⟨dq, osq⟩, hw''⟩ := hw'
   have hb := below_regrown wr dq osq
   subst hw''
   generalize grow (redrawn wr dq) osq = w1 at hb ⊢
   replace hA := hA.below hb
   replace hC := hC.below hb
   replace hB := hB.trans (hb.mono hB.size)
   clear hb
   clear la lb kK
   go_wp2_with fail
   exact ⟨⟨j + 1, by omega, by go_num, hA, hC, hB⟩, by simp [intOf]; omega⟩
  ·obtain rfl : j = n := by omega
   clear hA hC
   go_wp2_with fail
   go_ret
   exact ⟨rfl, hB⟩
theorem bsTd0 (w : World) : (Instr.buildSlice 34 0 #[]).run Tryz.prog w = .ok (.slice (some ⟨w.heap.size, 0, none⟩) 0 0) (w.alloc (.cells #[] 59)) := by kernel_rfl
theorem box_Td {ops : Array Oper} {rest : List Oper} {op : Oper} {a : Act} {w : World} {Q : Exit → Act → World → Prop} (hgd : op.guard = none) (x : Operand) (ho : op.op = .buildSlice 34 1 #[(0, x)]) (e : Td) (hx : a.eval x = .agg e.arr)
  (h : ∀ W, Li Td.vals w.heap.size (some ⟨w.heap.size, 0, none⟩) [e] W → Below w.heap.size w W → wpList Tryz.prog ops Q rest (a.put op.dst (.slice (some ⟨w.heap.size, 0, none⟩) 1 1)) W) : wpList Tryz.prog ops Q (op :: rest) a w :=
 wpList_plain hgd fun _ hK => by
  have hk := hK _ _ (h _ (li_box (f := Td.vals) w e 59 _ (Nat.le_refl _)) (below_box w _))
  unfold Oper.wp execOp
  simp only [ho, List.map_toArray, List.map_cons, List.map_nil, hx, Sem.run_bind, Sem.run_pure, bsTd, Result.andThen_ok]
  exact hk
theorem box_Td0 {ops : Array Oper} {rest : List Oper} {op : Oper} {a : Act} {w : World} {Q : Exit → Act → World → Prop} (hgd : op.guard = none) (ho : op.op = .buildSlice 34 0 #[])
  (h : wpList Tryz.prog ops Q rest (a.put op.dst (.slice (some ⟨w.heap.size, 0, none⟩) 0 0)) (w.alloc (.cells #[] 59))) : wpList Tryz.prog ops Q (op :: rest) a w :=
 wpList_plain hgd fun _ hK => by
  have hk := hK _ _ h
  unfold Oper.wp execOp
  simp only [ho, List.map_toArray, List.map_nil, Sem.run_bind, Sem.run_pure, bsTd0, Result.andThen_ok]
  exact hk
theorem bare_cells (t : Td) : putAt t.arr 8 (frc noFr).toList = t.bare.arr := by kernel_rfl
def MadeTd (L : List Td) (B : Nat) (e : Ending) (w' : World) : Prop := ∃ a c, e = .returned (.slice a L.length c) ∧ Lg Td.vals 55 59 B a c L w'
set_option maxHeartbeats 4000000 in
theorem blank_ok (T : List Td) (ta : Option Addr) (tc : Nat) (hN : T.length ≤ 1000000) (w : World) (hS : Li Td.vals 0 ta T w) :
  Calls Tryz.prog 22 #[.slice ta T.length tc] w fun e w' => MadeTd (T.map Td.bare) w.heap.size e w' ∧ Below w.heap.size w w' := by
 obtain ⟨iI, zI, hI, hz0, hsz, hby, hzs⟩ := infoTd
 obtain ⟨n, hn⟩ : ∃ n, Hid (T.length = n) := ⟨_, rfl⟩
 rw [hn.out] at hN ⊢
 have o0 := Lg.of (Ow.empty (f := Td.vals) (k := 55) (blk_new w #[] 59)) (Nat.le_refl w.heap.size)
 have hB0 := below_box w (.cells #[] 59)
 go_enter Tryz.func22, Tryz.ntmps22
 go_wp2_with (refine box_Td0 rfl rfl ?_)
 go_loopw [3, 4] (fun ov iv wr => ∃ (j : Nat) (a : Option Addr) (c : Nat), j ≤ n ∧ iv = .int .i64 j ∧ ov = .slice a j c ∧ Lg Td.vals 55 59 w.heap.size a c ((T.take j).map Td.bare) wr ∧ Below w.heap.size w wr) (fun _ iv _ => n - (intOf iv).toNat)
 case atStart => exact ⟨0, _, _, by omega, rfl, rfl, o0, hB0⟩
 case round =>
  clear o0 hB0
  obtain ⟨j, a, c, hj, rfl, rfl, hG, hB⟩ := hrel
  rename World => wr
  by_cases hjn : j < n
  ·have j0 : (j : Int) < (n : Int) := by omega
   have j1 : (0 : Int) ≤ (j : Int) := by omega
   obtain ⟨t, ht⟩ : ∃ t, T[j]? = some t := ⟨_, List.getElem?_eq_getElem (by rw [hn.out]; exact hjn)⟩
   have HS : Hid ((T.take (j + 1)).map Td.bare = (T.take j).map Td.bare ++ [t.bare]) := by
    show _ = _
    rw [List.take_add_one, ht, List.map_append]
    rfl
   have HL : Hid (((T.take j).map Td.bare).length = j) := by
    show _ = _
    rw [List.length_map, List.length_take, hn.out]
    omega
   obtain ⟨bt, of, rfl, _, hbl, hr⟩ := (hS.below hB).at Td.vals_length j t ht
   have b5 := blk_new wr t.arr 59
   have hb := below_box wr (.cells t.arr 59)
   go_upto_region 6 with (go_big_may; first | refine load_range rfl 59 _ rfl (o := of + j * 55) t.vals hr rfl Tryz.underlying59 rfl sizeTd ?_ | refine alloc_zero zeroTd rfl rfl ?_ | refine store_new rfl 59 _ _ rfl (cells := t.arr) rfl rfl sizeTd rfl t.arr_one ?_)
   try simp only [Act.put, List.setIfInBounds_toArray, List.set_cons_zero, List.set_cons_succ]
   have hz5 := hB.size
   generalize wr.alloc (Obj.cells t.arr 59) = W at b5 hb ⊢
   have hal : wr.heap.size ∉ blkOf a := fun hm => Nat.lt_irrefl _ (hG.in _ hm).2
   replace hG := hG.below hb
   replace hB := hB.trans (hb.mono hB.size)
   generalize wr.heap.size = z5 at b5 hz5 hal ⊢
   clear hb hr hbl ht
   go_upto_region 7 with (go_big_may; first | refine build_zero builtFr rfl rfl ?_ | (refine store_part rfl 43 _ _ rfl (off := 8) (cells := frc noFr) b5 rfl rfl sizeFr (show 8 + 36 ≤ 55 by decide) (frc_one _) ?_; intro w2 b6 k6))
   try simp only [Act.put, List.setIfInBounds_toArray, List.set_cons_zero, List.set_cons_succ]
   rw [bare_cells] at b6
   replace hG := hG.away k6 hal
   replace hB := hB.trans (k6.below1 hz5 hB.size)
   clear b5 k6
   go_wp2_with (go_big_may; first | refine load_blk rfl 59 _ rfl b6 rfl Tryz.underlying59 rfl sizeTd ?_ | (refine box_Td rfl _ rfl t.bare rfl ?_; intro W2 hl2 hb2; have hG2 := hG.below hb2; have hB2 := below_next hB hb2) | (refine append_any Td.vals_length rfl _ _ rfl Tryz.underlying34 hI hz0 hsz hby hzs hG2 hB2.size HL.out rfl (M := [t.bare]) (m := 1) rfl (hl2.src Td.vals_length Td.vals_one Tryz.underlying34 1) rfl (by omega) (by simp only [maxLen]; omega) ?_; intro a3 c3 W3 hG3 hK3 _))
   have hB3 : Below w.heap.size w W3 := hB2.trans (hK3.below (fun k hk => (hG2.in k hk).1) hB2.size)
   exact ⟨⟨j + 1, a3, c3, by omega, by go_num, rfl, by rw [HS.out]; exact hG3, hB3⟩, by simp [intOf]; omega⟩
  ·obtain rfl : j = n := by omega
   have e : T.take j = T := List.take_of_length_le (by rw [hn.out]; omega)
   rw [e] at hG
   have HM : MadeTd (T.map Td.bare) w.heap.size (.returned (.slice a j c)) wr := ⟨a, c, by rw [List.length_map, hn.out], hG⟩
   clear hG e
   go_wp2_with fail
   go_ret
   exact ⟨HM, hB⟩
end Go.Proofs.YthgfpdidilolgaaGreat
