/-
  Of the texts beneath these laws, in their order: ClU, ClV, ClW.
  Each theorem says its own conditions.
-/
import Derived.Test.YthgfpdidilolgaaGreatZ38
import Derived.Test.YthgfpdidilolgaaGreatZ00
namespace Go.Proofs.YthgfpdidilolgaaGreat
set_option maxRecDepth 10000
open Go.RowKit Go.Sort
set_option linter.unusedVariables false
def Ln : Nat → Co → List Kt → List Td → Prop
 | 0, c, L, T => ∃ (a : Option Addr) (q : Nat), c = (startC 0 1 3).kp a 0 q ∧ L = [] ∧ T = []
 | k + 1, c', L', T' => ∃ (c : Co) (L : List Kt) (T : List Td) (a : Option Addr) (q : Nat), Ln k c L T ∧ c' = (tickS c L noFr).c.kp a (tickS c L noFr).L.length q ∧ L' = (tickS c L noFr).L ∧ T' = T ++ tells 0 (tickS c L noFr).c.own c.conf (tickS c L noFr).t
theorem ln3 {c : Co} {L : List Kt} {T : List Td} (h : Ln 3 c L T) : T.map (fun t => (t.h.view, t.h.k.rd)) = [(false, 1), (false, 2), (false, 3)] := by
 obtain ⟨_, _, _, a, q, h, rfl, rfl, rfl⟩ := h
 obtain ⟨_, _, _, a2, q2, h, rfl, rfl, rfl⟩ := h
 obtain ⟨_, _, _, a3, q3, h, rfl, rfl, rfl⟩ := h
 obtain ⟨a4, q4, rfl, rfl, rfl⟩ := h
 kernel_rfl
def JJ (k : Nat) (S : Cs) : Prop := (∃ G, JI 1 3 k G S) ∧ ∃ c L, Ln k c L S.t ∧ S.cs = [(c, L)] ∧ S.up = [true]
theorem newL_none (t : ByteArray) : newL 0 t 1 = [] := rfl
theorem jj_step {k : Nat} {G : List Gh} {S : Cs} (hj : JI 1 3 k G S) (h : ∃ c L, Ln k c L S.t ∧ S.cs = [(c, L)] ∧ S.up = [true]) {S' : Cs} (hN : Nxt (QG G) S De.zero S') : JJ (k + 1) S' := by
 refine ⟨hj.step (by decide) hN, ?_⟩
 obtain ⟨c, L, h1, h2, h3⟩ := h
 rcases hN with ⟨_, h⟩ | ⟨i, x, a, q, s, h0, hi, hx, hs, rfl⟩ | ⟨_, _, h0, _⟩ | ⟨_, h0, _⟩ | ⟨h0, _⟩ | ⟨h0, _⟩ | ⟨h0, _⟩
 ·refine absurd ⟨rfl, ?_⟩ h
  show isUpB S 0 = true
  unfold isUpB isD
  rw [h2, h3]
  rfl
 ·have hi : (0 : Int) = (i : Int) := hi
  have e : i = 0 := by omega
  subst e
  have ex : x = (c, L) := by
   have := hx
   rw [h2] at this
   cases this
   rfl
  subst ex
  have ef : (if frOk De.zero.f = true then De.zero.f else noFr) = noFr := ite_self _
  rw [ef] at hs
  subst hs
  have el : (becS S 0 ((tickS c L noFr).c.kp a (tickS c L noFr).L.length q) (tickS c L noFr).L c.conf (tickS c L noFr).t).cs.length = 1 := by
   show (S.cs.set 0 _).length = 1
   rw [List.length_set, h2]
   rfl
  have ew : ∀ X : Cs, X.cs.length = 1 → ∀ p, wriS X 0 p = X := fun X hX p => by
   unfold wriS
   rw [hX, newL_none, if_pos rfl, ite_self]
  rw [ew _ el]
  exact ⟨_, _, ⟨c, L, S.t, a, q, h1, rfl, rfl, rfl⟩, by show S.cs.set 0 _ = _; rw [h2]; rfl, h3⟩
 all_goals exact absurd rfl h0
def z3 : List De := [De.zero, De.zero, De.zero]
theorem bs3 (w : World) : (Instr.buildSlice 22 3 #[(0, .agg De.zero.arr), (1, .agg De.zero.arr), (2, .agg De.zero.arr)]).run Tryz.prog w = .ok (.slice (some ⟨w.heap.size, 0, none⟩) 3 3) (w.alloc (.cells (flat De.vals z3).toArray 45)) := by kernel_rfl
theorem box_3 {ops : Array Oper} {rest : List Oper} {op : Oper} {a : Act} {w : World} {Q : Exit → Act → World → Prop} (hgd : op.guard = none) (x y z : Operand) (ho : op.op = .buildSlice 22 3 #[(0, x), (1, y), (2, z)]) (hx : a.eval x = .agg De.zero.arr) (hy : a.eval y = .agg De.zero.arr) (hz : a.eval z = .agg De.zero.arr)
  (h : wpList Tryz.prog ops Q rest (a.put op.dst (.slice (some ⟨w.heap.size, 0, none⟩) 3 3)) (w.alloc (.cells (flat De.vals z3).toArray 45))) : wpList Tryz.prog ops Q (op :: rest) a w :=
 wpList_plain hgd fun _ hK => by
  have hk := hK _ _ h
  unfold Oper.wp execOp
  simp only [ho, List.map_toArray, List.map_cons, List.map_nil, hx, hy, hz, Sem.run_bind, Sem.run_pure, bs3, Result.andThen_ok]
  exact hk
theorem ran3 (ca ua : Addr) (cc uc : Nat) (w : World) (hc : Li cov 0 (some ca) (csB 3 1) w) (hu : Li bvl 0 (some ua) (List.replicate 1 true) w) (da : Option Addr) (hD : Li De.vals 0 da z3 w) : Calls Tryz.prog 27 #[.agg (clc 3 (.slice (some ca) 1 cc) (.slice (some ua) 1 uc) (.slice none 0 0)), .slice da 3 3] w fun e w' => Ran (JJ 3) w.heap.size e w' ∧ Below w.heap.size w w' :=
 run_ok JJ 3 (csB 3 1) (List.replicate 1 true) [] ca ua none cc uc 0 z3 da 3 w hc hu (.inl rfl) (by decide) (by decide) (by decide) (fun x hx => by
  obtain ⟨i, hi⟩ := List.getElem?_of_mem hx
  obtain ⟨_, e⟩ := csB_at hi
  rw [e]
  unfold startC
  split <;> exact ⟨rfl, rfl, rfl, rfl⟩) hD (by decide) (fun d hd => by
  have e : d = De.zero := by simp [z3] at hd; exact hd
  rw [e]
  exact ⟨by decide, by decide, by decide⟩) (fun CS hK => ⟨JI.first (n := 1) (by decide) hK, by
  obtain ⟨h1, h2⟩ := hK
  match CS, h1 with
  | [x], _ =>
   obtain ⟨y, a, k, h3, h4⟩ := h2 0 x rfl
   obtain ⟨_, e⟩ := csB_at h3
   rw [e] at h4
   rw [h4]
   exact ⟨_, _, ⟨a, k, rfl, rfl, rfl⟩, rfl, rfl⟩⟩) (fun k S hk hj => by
  obtain ⟨⟨G, hj⟩, h⟩ := hj
  obtain ⟨g1, g2, g3⟩ := hj.good (Nat.le_trans hk (by decide))
  exact ⟨QG G, 4 * k, g1, g2, g3, fun d S' hd hN => by
   have e : d = De.zero := by have := List.mem_of_getElem? hd; simp [z3] at this; exact this
   rw [e] at hN
   exact jj_step hj h hN⟩)
set_option maxHeartbeats 8000000 in
theorem ufixed_ok (w : World) : Calls Tryz.prog 11 #[] w fun e w' => e = .returned (.bool true) ∧ Below w.heap.size w w' := by
 have p1 := beg_yes 1 3 (by decide)
 have p2 := beg_no 9 3 (by decide)
 go_enter Tryz.func11, Tryz.ntmps11
 go_wp2_with fail
 refine (p1 _).mono ?_
 rintro r w1 ⟨⟨ca, cc, ua, uc, rfl, hca, hua⟩, hB⟩
 have b1 := blk_new w1 (clc 3 (.slice (some ca) 1 cc) (.slice (some ua) 1 uc) (.slice none 0 0)) 29
 have hb := below_box w1 (.cells (clc 3 (.slice (some ca) 1 cc) (.slice (some ua) 1 uc) (.slice none 0 0)) 29)
 clear p1
 go_upto_region 2 with (go_big_may; first | refine alloc_zero zeroCl rfl rfl ?_ | refine store_new rfl 29 _ _ rfl (cells := (clc 3 (.slice (some ca) 1 cc) (.slice (some ua) 1 uc) (.slice none 0 0))) rfl rfl sizeCl rfl (clc_one _ _ _ _ _ _ _ _ _ _) ?_)
 try simp only [Act.put, List.setIfInBounds_toArray, List.set_cons_zero, List.set_cons_succ]
 generalize w1.alloc (Obj.cells (clc 3 (.slice (some ca) 1 cc) (.slice (some ua) 1 uc) (.slice none 0 0)) 29) = w2 at b1 hb ⊢
 replace hca := (hca.below hb).mono (Nat.zero_le _)
 replace hua := (hua.below hb).mono (Nat.zero_le _)
 have hB2 : Below w.heap.size w w2 := hB.trans (hb.mono hB.size)
 have hw1 : w.heap.size ≤ w1.heap.size := hB.size
 clear hb hB
 go_wp2_with fail
 refine (p2 _).mono ?_
 rintro r w3 ⟨rfl, hb⟩
 have hb4 := below_box w3 (.cells (clc 0 (.slice none 0 0) (.slice none 0 0) (.slice none 0 0)) 29)
 clear p2
 go_upto_region 3 with (go_big_may; first | refine alloc_zero zeroCl rfl rfl ?_ | refine store_new rfl 29 _ _ rfl (cells := (clc 0 (.slice none 0 0) (.slice none 0 0) (.slice none 0 0))) rfl rfl sizeCl rfl (clc_one _ _ _ _ _ _ _ _ _ _) ?_)
 try simp only [Act.put, List.setIfInBounds_toArray, List.set_cons_zero, List.set_cons_succ]
 generalize w3.alloc (Obj.cells (clc 0 (.slice none 0 0) (.slice none 0 0) (.slice none 0 0)) 29) = w4 at hb4 ⊢
 replace hca := (hca.below hb).below hb4
 replace hua := (hua.below hb).below hb4
 replace b1 := (b1.below hb).below hb4
 replace hB2 := (hB2.trans (hb.mono hB2.size)).trans (hb4.mono (Nat.le_trans hB2.size hb.size))
 clear hb hb4
 have hb5 := below_box w4 (.cells (flat De.vals z3).toArray 45)
 have hw4 := Nat.lt_of_lt_of_le b1.lt hb5.size
 have hD := li_whole (B := 0) (blk_new w4 (flat De.vals z3).toArray 45) (Nat.zero_le _)
 go_wp2_with (first | refine load_blk rfl 29 _ rfl b1 rfl Tryz.underlying29 rfl sizeCl ?_ | (refine build_as rfl 45 #[] rfl (C := De.zero.arr) ?_ ?_; kernel_rfl) | refine box_3 rfl _ _ _ rfl rfl rfl rfl ?_)
 refine (ran3 ca ua cc uc _ (hca.below hb5) (hua.below hb5) _ hD).mono ?_
 rintro r w6 ⟨⟨S, g, cc9, u, uc9, la, lc, ta, tc, rfl, ⟨_, c, L, hLn, hS1, hS2⟩, _, hT⟩, hb6⟩
 replace b1 := (b1.below hb5).below hb6
 replace hB2 := (hB2.trans (hb5.mono hB2.size)).trans (hb6.mono (Nat.le_trans hB2.size hb5.size))
 have hl3 := ln3 hLn
 have hSl : S.t.length = 3 := by have := congrArg List.length hl3; simpa using this
 have hcl : S.cs.length = 1 := by rw [hS1]; rfl
 obtain ⟨t, ht⟩ : ∃ t, S.t[2]? = some t := ⟨_, List.getElem?_eq_getElem (by omega)⟩
 have htv : (t.h.view, t.h.k.rd) = (false, 3) := by
  have := congrArg (fun l => l[2]?) hl3
  simp only [List.getElem?_map, ht, Option.map_some] at this
  exact Option.some.inj this
 have e1 : t.h.view = false := congrArg Prod.fst htv
 have e2 : t.h.k.rd = 3 := congrArg Prod.snd htv
 obtain ⟨bt, of, rfl, hbt, hbl, hr⟩ := hT.at Td.vals_length 2 t ht
 rw [hSl, hcl]
 clear hca hua hD hb5 hb6 hl3 hLn hS1 hS2 hcl hSl ht htv hT
 go_upto_region 4 with (go_big_may; refine store_part rfl 29 _ _ rfl (off := 0) (cells := clc S.wait (.slice (some ⟨g, 0, none⟩) 1 cc9) (.slice (some ⟨u, 0, none⟩) S.up.length uc9) (.slice la S.ls.length lc)) b1 rfl rfl sizeCl (Nat.le_refl _) (clc_one _ _ _ _ _ _ _ _ _ _) ?_; intro w9 b9 k9; rw [putAt_all _ _ (by rfl)] at b9)
 have c1 : w9.cell? ⟨w1.heap.size, 1, none⟩ = some (.slice (some ⟨g, 0, none⟩) 1 cc9) := b9.cell 1 _ rfl
 have hrk := range_block hr (k9.block bt hbl (by simp; omega))
 have c2 : w9.cell? ⟨bt, of + 110 + 7, none⟩ = some (.int .u32 3) := by
  have := hrk 7 (.int .u32 (t.h.k.rd : Int)) rfl
  rw [e2] at this
  exact this
 have c3 : w9.cell? ⟨bt, of + 110 + 5, none⟩ = some (.bool false) := by
  have := hrk 5 (.bool t.h.view) rfl
  rw [e1] at this
  exact this
 replace hB2 := below_kp hB2 k9 hw1
 clear hr hrk b9 k9 b1
 go_wp2_with fail
 go_ret
 exact ⟨rfl, hB2⟩
end Go.Proofs.YthgfpdidilolgaaGreat
namespace Go.Proofs.YthgfpdidilolgaaGreat
set_option maxRecDepth 10000
open Go.ChangeShapes Go.WideShapes Go.ChangeAt Go.RowKit Go.WideElems Go.Sort
section
variable {H : Type} {enc : TypeId × Value → H} {W : World} {base : Nat} {spare : Nat → Bool} {held : Bool}
theorem i64_of2 (n : Int) (h : (Lit.int .i64 n).wf = true) : -9223372036854775808 ≤ n ∧ n ≤ 9223372036854775807 := by
 simp [Lit.wf, IntKind.min, IntKind.max, IntKind.signed, IntKind.bits] at h
 omega
theorem int_cell2 {l : List Value} {fuel : Nat} {o : Option (DataW H × List MemPlace)} (ho : o.isSome = true) (h : DataW.trod enc Tryz.prog W base spare held fuel 3 l = o) : ∃ x : Int, l = [.int .i64 x] ∧ -9223372036854775808 ≤ x ∧ x ≤ 9223372036854775807 := by
 obtain ⟨y, rfl⟩ := Option.isSome_iff_exists.1 ho
 obtain ⟨k, e, _, hw⟩ := DataW.trod_int Tryz.underlying3 h
 exact ⟨k, e, i64_of2 k hw⟩
theorem de_cells {l : List Value} {fuel : Nat} {x : DataW H × List MemPlace} (h : DataW.trod enc Tryz.prog W base spare held fuel 45 l = some x) (_hw : ∀ n ∈ x.1.weights Tryz.prog 45, n ≤ reachBytes) : ∃ e : De, l = e.vals ∧ e.ok := by
 have hC : Tryz.prog.cellsOf 45 = 42 := by kernel_rfl
 have h1 : Tryz.prog.cellsOf 3 = 1 := by kernel_rfl
 have h2 : Tryz.prog.cellsOf 37 = 1 := by kernel_rfl
 have h3 : Tryz.prog.cellsOf 43 = 36 := by kernel_rfl
 obtain ⟨xs, k, _, _, hlen, hl, hg⟩ := DataW.trod_struct Tryz.underlying45 h
 have hl7 : xs.length = 7 := hl
 rw [hC] at hlen
 obtain ⟨x0, e0, _⟩ := int_cell2 (by rw [List.getElem?_eq_getElem (by omega)]; rfl) (hg 0 _ rfl)
 obtain ⟨x1, e1, _⟩ := int_cell2 (by rw [List.getElem?_eq_getElem (by omega)]; rfl) (hg 1 _ rfl)
 obtain ⟨x2, e2, _⟩ := int_cell2 (by rw [List.getElem?_eq_getElem (by omega)]; rfl) (hg 2 _ rfl)
 obtain ⟨x3, e3, b3⟩ := int_cell2 (by rw [List.getElem?_eq_getElem (by omega)]; rfl) (hg 3 _ rfl)
 obtain ⟨x4, e4, b4⟩ := int_cell2 (by rw [List.getElem?_eq_getElem (by omega)]; rfl) (hg 4 _ rfl)
 obtain ⟨x5, e5, b5⟩ := u32_cell (by rw [List.getElem?_eq_getElem (by omega)]; rfl) (hg 5 _ rfl)
 obtain ⟨x6, e6⟩ := fr_cells (by rw [List.getElem?_eq_getElem (by omega)]; rfl) (hg 6 _ rfl)
 change (l.drop 0).take (Tryz.prog.cellsOf 3) = _ at e0
 change (l.drop 1).take (Tryz.prog.cellsOf 3) = _ at e1
 change (l.drop 2).take (Tryz.prog.cellsOf 3) = _ at e2
 change (l.drop 3).take (Tryz.prog.cellsOf 3) = _ at e3
 change (l.drop 4).take (Tryz.prog.cellsOf 3) = _ at e4
 change (l.drop 5).take (Tryz.prog.cellsOf 37) = _ at e5
 change (l.drop 6).take (Tryz.prog.cellsOf 43) = _ at e6
 rw [h1] at e0 e1 e2 e3 e4
 rw [h2] at e5
 rw [h3] at e6
 have z : l.drop 42 = [] := List.drop_eq_nil_of_le (by omega)
 have e : l = (l.drop 0).take 1 ++ ((l.drop 1).take 1 ++ ((l.drop 2).take 1 ++ ((l.drop 3).take 1 ++ ((l.drop 4).take 1 ++ ((l.drop 5).take 1 ++ (l.drop 6).take 36))))) := by
  conv => lhs; rw [← List.drop_zero (l := l), more l 0 1, more l 1 1, more l 2 1, more l 3 1, more l 4 1, more l 5 1, more l 6 36, z, List.append_nil]
 refine ⟨⟨x0, x1, x2, x3, x4, x5, x6⟩, ?_, b3, b4.2, b5⟩
 rw [e, e0, e1, e2, e3, e4, e5, e6]
 rfl
theorem open_play {v : Value} {d : DataW H} {p : List MemPlace} (hv : ∃ cs, v = .agg cs) (hw : ∀ n ∈ d.weights Tryz.prog 24, n ≤ reachBytes) (h : DataW.Trod enc Tryz.prog W base spare held 24 v d p) :
  ∃ (n wt : Int) (D : List De) (da : Option Addr) (dc : Nat), v = .agg (plv n wt (.slice da D.length dc)) ∧ D.length ≤ dc ∧ dc ≤ maxLen ∧ (∀ d ∈ D, d.ok) ∧ Li De.vals 0 da D W := by
 obtain ⟨cs, rfl⟩ := hv
 have hC : Tryz.prog.cellsOf 24 = 3 := by kernel_rfl
 have h1 : Tryz.prog.cellsOf 3 = 1 := by kernel_rfl
 have h2 : Tryz.prog.cellsOf 22 = 1 := by kernel_rfl
 obtain ⟨fuel, hf⟩ := h
 obtain ⟨xs, m, _, hd, hlen, hl, hg⟩ := DataW.trod_struct Tryz.underlying24 hf
 have hl3 : xs.length = 3 := hl
 rw [hC] at hlen
 generalize hcs : (Value.agg cs).cells.toList = l at hlen hg
 obtain ⟨x0, e0, _⟩ := int_cell2 (by rw [List.getElem?_eq_getElem (by omega)]; rfl) (hg 0 _ rfl)
 obtain ⟨x1, e1, _⟩ := int_cell2 (by rw [List.getElem?_eq_getElem (by omega)]; rfl) (hg 1 _ rfl)
 have g2 := hg 2 _ rfl
 obtain ⟨y2, hy2⟩ : ∃ y, xs[2]? = some y := ⟨_, List.getElem?_eq_getElem (by omega)⟩
 rw [hy2] at g2
 change (l.drop 0).take (Tryz.prog.cellsOf 3) = _ at e0
 change (l.drop 1).take (Tryz.prog.cellsOf 3) = _ at e1
 change DataW.trod enc Tryz.prog W base spare held m 22 ((l.drop 2).take (Tryz.prog.cellsOf 22)) = some y2 at g2
 rw [h1] at e0 e1
 rw [h2] at g2
 have hwy : ∀ n ∈ y2.1.weights Tryz.prog 22, n ≤ reachBytes := fun n hn => hw n (by
  have hd' : d = .agg (xs.map (·.1)) := by injection hd
  rw [hd']
  have hu : Tryz.prog.underlying 24 = some (.struct (Tryz.prog.fieldsOf 24)) := by kernel_rfl
  have hf3 : (Tryz.prog.fieldsOf 24).toList.map (·.type) = [3, 3, 22] := by kernel_rfl
  simp only [DataW.weights, hu, hf3]
  exact DataW.weights_mem_each (j := 2) rfl (by rw [List.getElem?_map, hy2]; rfl) _ hn)
 have key : ∃ (a : Option Addr) (L : List De) (c : Nat), (l.drop 2).take 1 = [.slice a L.length c] ∧ L.length ≤ c ∧ c ≤ maxLen ∧ (∀ x ∈ L, x.ok) ∧ Li De.vals 0 a L W := by
  rcases Go.Deep.open_slice Tryz.underlying22 g2 with ⟨hc, _⟩ | ⟨a, len, cap, mm, nn, D, Pl, hc, hba, hlc, hcm, hm, hx, hcell⟩
  ·exact ⟨none, [], 0, hc, Nat.le_refl _, Nat.zero_le _, fun _ h => (by cases h), .inl rfl⟩
  ·have ht : DataW.Trod enc Tryz.prog W base spare held 22 (.slice (some a) len cap) y2.1 y2.2 := ⟨m, by
    have e9 : (Value.slice (some a) len cap).cells.toList = [.slice (some a) len cap] := by simp [Value.cells]
    rw [e9, ← hc]
    exact g2⟩
   obtain ⟨a', L, k', e', _, h5, h6, h7, hS⟩ := open_liw De.zero De.vals_length (by decide) (bytes := 384) Tryz.underlying22 (by kernel_rfl) (by kernel_rfl) de_cells ⟨_, _, _, rfl⟩ hwy ht
   injection e' with e3 e4 e5
   subst e3 e4 e5
   exact ⟨some a, L, cap, hc, h5, h6, h7, hS⟩
 obtain ⟨a, L, c, e2, h5, h6, h7, hS⟩ := key
 have z : l.drop 3 = [] := List.drop_eq_nil_of_le (by omega)
 have e : l = (l.drop 0).take 1 ++ ((l.drop 1).take 1 ++ (l.drop 2).take 1) := by
  conv => lhs; rw [← List.drop_zero (l := l), more l 0 1, more l 1 1, more l 2 1, z, List.append_nil]
 refine ⟨x0, x1, L, a, c, ?_, h5, h6, h7, hS⟩
 refine (agg_of hcs).trans ?_
 rw [e, e0, e1, e2]
 rfl
end
end Go.Proofs.YthgfpdidilolgaaGreat
namespace Go.Proofs.YthgfpdidilolgaaGreat
set_option maxRecDepth 10000
open Go.RowKit Go.Sort
theorem Td.p_in (a : Td) : (a.arr.extract 2 (2 + a.inn.vals.length)).toList = a.inn.vals := by kernel_rfl
theorem Td.p_conf (a : Td) : (a.arr.extract 44 (44 + a.h.conf.vals.length)).toList = a.h.conf.vals := by kernel_rfl
theorem Td.p_frame (a : Td) : (a.arr.extract 8 (8 + (frv a.h.k.f).length)).toList = frv a.h.k.f := by kernel_rfl
theorem Td.get_mem (a : Td) (i : Nat) (h : i < 8) : a.arr[47 + i]? = some (.int .u32 (a.h.mem i : Int)) := by
 obtain rfl | rfl | rfl | rfl | rfl | rfl | rfl | rfl : i = 0 ∨ i = 1 ∨ i = 2 ∨ i = 3 ∨ i = 4 ∨ i = 5 ∨ i = 6 ∨ i = 7 := by omega
 all_goals rfl
theorem _root_.List.drop_eq_getElem_cons2 {α : Type} {l : List α} {i : Nat} {a : α} (h : l[i]? = some a) : l.drop i = a :: l.drop (i + 1) := by
 obtain ⟨hi, e⟩ := List.getElem?_eq_some_iff.1 h
 rw [List.drop_eq_getElem_cons hi, e]
end Go.Proofs.YthgfpdidilolgaaGreat
