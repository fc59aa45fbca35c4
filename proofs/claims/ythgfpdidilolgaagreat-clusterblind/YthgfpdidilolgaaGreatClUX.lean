/-
  Of the texts beneath these laws, in their order: ClU.
  Each theorem says its own conditions.
-/
import Derived.Test.YthgfpdidilolgaaGreatZ33
namespace Go.Proofs.YthgfpdidilolgaaGreat
set_option maxRecDepth 10000
open Go.RowKit Go.Sort
set_option linter.unusedVariables false
def Ln : Nat → Co → List Kt → List Td → Prop
 | 0, c, L, T => ∃ (a : Option Addr) (q : Nat), c = (startC 0 1 3).kp a 0 q ∧ L = [] ∧ T = []
 | k + 1, c', L', T' => ∃ (c : Co) (L : List Kt) (T : List Td) (a : Option Addr) (q : Nat), Ln k c L T ∧ c' = (tickS c L noFr).c.kp a (tickS c L noFr).L.length q ∧ L' = (tickS c L noFr).L ∧ T' = T ++ tells 0 (tickS c L noFr).c.own c.conf (tickS c L noFr).t
theorem ln3 {c : Co} {L : List Kt} {T : List Td} (h : Ln 3 c L T) : T.map (fun t => (t.h.view, t.h.k.rd)) = [(false, 1), (false, 2), (false, 3)] := by
 obtain ⟨_, _, _, a, q, h, rfl, rfl, rfl⟩ := h
 obtain ⟨_, _, _, a2, q2, h, rfl, rfl, rfl⟩ := h
 obtain ⟨_, _, _, a3, q3, h, rfl, rfl, rfl⟩ := h
 obtain ⟨a4, q4, rfl, rfl, rfl⟩ := h
 kernel_rfl
def JJ (k : Nat) (S : Cs) : Prop := (∃ G, JI 1 3 k G S) ∧ ∃ c L, Ln k c L S.t ∧ S.cs = [(c, L)] ∧ S.up = [true]
theorem newL_none (t : ByteArray) : newL 0 t 1 = [] := rfl
theorem jj_step {k : Nat} {G : List Gh} {S : Cs} (hj : JI 1 3 k G S) (h : ∃ c L, Ln k c L S.t ∧ S.cs = [(c, L)] ∧ S.up = [true]) {S' : Cs} (hN : Nxt (QG G) S De.zero S') : JJ (k + 1) S' := by
 refine ⟨hj.step (by decide) hN, ?_⟩
 obtain ⟨c, L, h1, h2, h3⟩ := h
 rcases hN.weak with ⟨_, h⟩ | ⟨i, x, a, q, s, h0, hi, hx, hs, rfl⟩ | ⟨_, _, _, h0, _⟩ | ⟨_, h0, _⟩ | ⟨h0, _⟩ | ⟨h0, _⟩ | ⟨h0, _⟩
 ·refine absurd ⟨rfl, ?_⟩ h
  show isUpB S 0 = true
  unfold isUpB isD
  rw [h2, h3]
  rfl
 ·have hi : (0 : Int) = (i : Int) := hi
  have e : i = 0 := by omega
  subst e
  have ex : x = (c, L) := by
   have := hx
   rw [h2] at this
   cases this
   rfl
  subst ex
  have ef : (if frOk De.zero.f = true then De.zero.f else noFr) = noFr := ite_self _
  rw [ef] at hs
  subst hs
  have el : (becS S 0 ((tickS c L noFr).c.kp a (tickS c L noFr).L.length q) (tickS c L noFr).L c.conf (tickS c L noFr).t).cs.length = 1 := by
   show (S.cs.set 0 _).length = 1
   rw [List.length_set, h2]
   rfl
  have ew : ∀ X : Cs, X.cs.length = 1 → ∀ p, wriS X 0 p = X := fun X hX p => by
   unfold wriS
   rw [hX, newL_none, if_pos rfl, ite_self]
  rw [ew _ el]
  exact ⟨_, _, ⟨c, L, S.t, a, q, h1, rfl, rfl, rfl⟩, by show S.cs.set 0 _ = _; rw [h2]; rfl, h3⟩
 all_goals exact absurd rfl h0
def z3 : List De := [De.zero, De.zero, De.zero]
theorem bs3 (w : World) : (Instr.buildSlice 22 3 #[(0, .agg De.zero.arr), (1, .agg De.zero.arr), (2, .agg De.zero.arr)]).run Tryz.prog w = .ok (.slice (some ⟨w.heap.size, 0, none⟩) 3 3) (w.alloc (.cells (flat De.vals z3).toArray 45)) := by kernel_rfl
theorem box_3 {ops : Array Oper} {rest : List Oper} {op : Oper} {a : Act} {w : World} {Q : Exit → Act → World → Prop} (hgd : op.guard = none) (x y z : Operand) (ho : op.op = .buildSlice 22 3 #[(0, x), (1, y), (2, z)]) (hx : a.eval x = .agg De.zero.arr) (hy : a.eval y = .agg De.zero.arr) (hz : a.eval z = .agg De.zero.arr)
  (h : wpList Tryz.prog ops Q rest (a.put op.dst (.slice (some ⟨w.heap.size, 0, none⟩) 3 3)) (w.alloc (.cells (flat De.vals z3).toArray 45))) : wpList Tryz.prog ops Q (op :: rest) a w :=
 wpList_plain hgd fun _ hK => by
  have hk := hK _ _ h
  unfold Oper.wp execOp
  simp only [ho, List.map_toArray, List.map_cons, List.map_nil, hx, hy, hz, Sem.run_bind, Sem.run_pure, bs3, Result.andThen_ok]
  exact hk
theorem ran3 (ca ua : Addr) (cc uc : Nat) (w : World) (hc : Li cov 0 (some ca) (csB 3 1) w) (hu : Li bvl 0 (some ua) (List.replicate 1 true) w) (da : Option Addr) (hD : Li De.vals 0 da z3 w) : Calls Tryz.prog 27 #[.agg (clc 3 (.slice (some ca) 1 cc) (.slice (some ua) 1 uc) (.slice none 0 0)), .slice da 3 3] w fun e w' => Ran (JJ 3) w.heap.size e w' ∧ Below w.heap.size w w' :=
 run_ok JJ 3 (csB 3 1) (List.replicate 1 true) [] ca ua none cc uc 0 z3 da 3 w hc hu (.inl rfl) (by decide) (by decide) (by decide) (fun x hx => by
  obtain ⟨i, hi⟩ := List.getElem?_of_mem hx
  obtain ⟨_, e⟩ := csB_at hi
  rw [e]
  unfold startC
  split <;> exact ⟨rfl, rfl, rfl, rfl⟩) hD (by decide) (fun d hd => by
  have e : d = De.zero := by simp [z3] at hd; exact hd
  rw [e]
  exact ⟨by decide, by decide, by decide⟩) (fun CS hK => ⟨JI.first (n := 1) (by decide) hK, by
  obtain ⟨h1, h2⟩ := hK
  match CS, h1 with
  | [x], _ =>
   obtain ⟨y, a, k, h3, h4⟩ := h2 0 x rfl
   obtain ⟨_, e⟩ := csB_at h3
   rw [e] at h4
   rw [h4]
   exact ⟨_, _, ⟨a, k, rfl, rfl, rfl⟩, rfl, rfl⟩⟩) (fun k S hk hj => by
  obtain ⟨⟨G, hj⟩, h⟩ := hj
  obtain ⟨g1, g2, g3⟩ := hj.good (Nat.le_trans hk (by decide))
  exact ⟨QG G, 4 * k, g1, g2, g3, fun d S' hd hN => by
   have e : d = De.zero := by have := List.mem_of_getElem? hd; simp [z3] at this; exact this
   rw [e] at hN
   exact jj_step hj h hN⟩)
set_option maxHeartbeats 8000000 in
theorem ufixed_ok (w : World) : Calls Tryz.prog 11 #[] w fun e w' => e = .returned (.bool true) ∧ Below w.heap.size w w' := by
 have p1 := beg_yes 1 3 (by decide)
 have p2 := beg_no 9 3 (by decide)
 go_enter Tryz.func11, Tryz.ntmps11
 go_wp2_with fail
 refine (p1 _).mono ?_
 rintro r w1 ⟨⟨ca, cc, ua, uc, rfl, hca, hua⟩, hB⟩
 have b1 := blk_new w1 (clc 3 (.slice (some ca) 1 cc) (.slice (some ua) 1 uc) (.slice none 0 0)) 29
 have hb := below_box w1 (.cells (clc 3 (.slice (some ca) 1 cc) (.slice (some ua) 1 uc) (.slice none 0 0)) 29)
 clear p1
 go_upto_region 2 with (go_big_may; first | refine alloc_zero zeroCl rfl rfl ?_ | refine store_new rfl 29 _ _ rfl (cells := (clc 3 (.slice (some ca) 1 cc) (.slice (some ua) 1 uc) (.slice none 0 0))) rfl rfl sizeCl rfl (clc_one _ _ _ _ _ _ _ _ _ _) ?_)
 try simp only [Act.put, List.setIfInBounds_toArray, List.set_cons_zero, List.set_cons_succ]
 generalize w1.alloc (Obj.cells (clc 3 (.slice (some ca) 1 cc) (.slice (some ua) 1 uc) (.slice none 0 0)) 29) = w2 at b1 hb ⊢
 replace hca := (hca.below hb).mono (Nat.zero_le _)
 replace hua := (hua.below hb).mono (Nat.zero_le _)
 have hB2 : Below w.heap.size w w2 := hB.trans (hb.mono hB.size)
 have hw1 : w.heap.size ≤ w1.heap.size := hB.size
 clear hb hB
 go_wp2_with fail
 refine (p2 _).mono ?_
 rintro r w3 ⟨rfl, hb⟩
 have hb4 := below_box w3 (.cells (clc 0 (.slice none 0 0) (.slice none 0 0) (.slice none 0 0)) 29)
 clear p2
 go_upto_region 3 with (go_big_may; first | refine alloc_zero zeroCl rfl rfl ?_ | refine store_new rfl 29 _ _ rfl (cells := (clc 0 (.slice none 0 0) (.slice none 0 0) (.slice none 0 0))) rfl rfl sizeCl rfl (clc_one _ _ _ _ _ _ _ _ _ _) ?_)
 try simp only [Act.put, List.setIfInBounds_toArray, List.set_cons_zero, List.set_cons_succ]
 generalize w3.alloc (Obj.cells (clc 0 (.slice none 0 0) (.slice none 0 0) (.slice none 0 0)) 29) = w4 at hb4 ⊢
 replace hca := (hca.below hb).below hb4
 replace hua := (hua.below hb).below hb4
 replace b1 := (b1.below hb).below hb4
 replace hB2 := (hB2.trans (hb.mono hB2.size)).trans (hb4.mono (Nat.le_trans hB2.size hb.size))
 clear hb hb4
 have hb5 := below_box w4 (.cells (flat De.vals z3).toArray 45)
 have hw4 := Nat.lt_of_lt_of_le b1.lt hb5.size
 have hD := li_whole (B := 0) (blk_new w4 (flat De.vals z3).toArray 45) (Nat.zero_le _)
 go_wp2_with (first | refine load_blk rfl 29 _ rfl b1 rfl Tryz.underlying29 rfl sizeCl ?_ | (refine build_as rfl 45 #[] rfl (C := De.zero.arr) ?_ ?_; kernel_rfl) | refine box_3 rfl _ _ _ rfl rfl rfl rfl ?_)
 refine (ran3 ca ua cc uc _ (hca.below hb5) (hua.below hb5) _ hD).mono ?_
 rintro r w6 ⟨⟨S, g, cc9, u, uc9, la, lc, ta, tc, rfl, ⟨_, c, L, hLn, hS1, hS2⟩, _, hT⟩, hb6⟩
 replace b1 := (b1.below hb5).below hb6
 replace hB2 := (hB2.trans (hb5.mono hB2.size)).trans (hb6.mono (Nat.le_trans hB2.size hb5.size))
 have hl3 := ln3 hLn
 have hSl : S.t.length = 3 := by have := congrArg List.length hl3; simpa using this
 have hcl : S.cs.length = 1 := by rw [hS1]; rfl
 obtain ⟨t, ht⟩ : ∃ t, S.t[2]? = some t := ⟨_, List.getElem?_eq_getElem (by omega)⟩
 have htv : (t.h.view, t.h.k.rd) = (false, 3) := by
  have := congrArg (fun l => l[2]?) hl3
  simp only [List.getElem?_map, ht, Option.map_some] at this
  exact Option.some.inj this
 have e1 : t.h.view = false := congrArg Prod.fst htv
 have e2 : t.h.k.rd = 3 := congrArg Prod.snd htv
 obtain ⟨bt, of, rfl, hbt, hbl, hr⟩ := hT.at Td.vals_length 2 t ht
 rw [hSl, hcl]
 clear hca hua hD hb5 hb6 hl3 hLn hS1 hS2 hcl hSl ht htv hT
 go_upto_region 4 with (go_big_may; refine store_part rfl 29 _ _ rfl (off := 0) (cells := clc S.wait (.slice (some ⟨g, 0, none⟩) 1 cc9) (.slice (some ⟨u, 0, none⟩) S.up.length uc9) (.slice la S.ls.length lc)) b1 rfl rfl sizeCl (Nat.le_refl _) (clc_one _ _ _ _ _ _ _ _ _ _) ?_; intro w9 b9 k9; rw [putAt_all _ _ (by rfl)] at b9)
 have c1 : w9.cell? ⟨w1.heap.size, 1, none⟩ = some (.slice (some ⟨g, 0, none⟩) 1 cc9) := b9.cell 1 _ rfl
 have hrk := range_block hr (k9.block bt hbl (by simp; omega))
 have c2 : w9.cell? ⟨bt, of + 110 + 7, none⟩ = some (.int .u32 3) := by
  have := hrk 7 (.int .u32 (t.h.k.rd : Int)) rfl
  rw [e2] at this
  exact this
 have c3 : w9.cell? ⟨bt, of + 110 + 5, none⟩ = some (.bool false) := by
  have := hrk 5 (.bool t.h.view) rfl
  rw [e1] at this
  exact this
 replace hB2 := below_kp hB2 k9 hw1
 clear hr hrk b9 k9 b1
 go_wp2_with fail
 go_ret
 exact ⟨rfl, hB2⟩
end Go.Proofs.YthgfpdidilolgaaGreat
