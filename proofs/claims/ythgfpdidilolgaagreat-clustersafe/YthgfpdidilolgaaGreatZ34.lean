/-
  Of the texts beneath these laws, in their order: ClN.
  Each theorem says its own conditions.
-/
import Derived.Test.YthgfpdidilolgaaGreatZ33
namespace Go.Proofs.YthgfpdidilolgaaGreat
set_option maxRecDepth 10000
set_option linter.unusedSimpArgs false
open Go.RowKit Go.Sort
set_option linter.unusedVariables false
def Tx (Q : Pw → Prop) (t : ByteArray) : Prop := (∃ y : Pw, Q y ∧ (∀ j, y.num j < 4294967296) ∧ y.ok = true ∧ t = y.text) ∨ (t.size = 641 ∧ Eld.Crc.okL t.data.toList = false)
def RcS (Q : Pw → Prop) (S : Cs) (t : ByteArray) (S' : Cs) : Prop := S' = S ∨ ∃ (i : Nat) (x : Co × List Kt) (y : Pw) (hy : ∀ j, y.num j < 4294967296) (a : Option Addr) (k : Nat) (s : Sg), Q y ∧ t = y.text ∧ y.ok = true ∧ S.cs[i]? = some x ∧ s = recvS x.1 x.2 (y.pk hy) ∧ S' = becS S i (s.c.kp a s.L.length k) s.L x.1.conf s.t
def Rcv (Q : Pw → Prop) (P : Nat) (S : Cs) (t : ByteArray) (g cc u uc : Nat) (la : Option Addr) (lc : Nat) (W : List Nat) (w w' : World) : Prop :=
 ∃ S' ta' tc', RcS Q S t S' ∧ Uc P S' g cc u uc la lc ta' tc' w' ∧ Kp W w w' ∧ ∀ b ∈ blkOf ta', b ∈ W ∨ w.heap.size ≤ b
theorem receive_any {Q : Pw → Prop} {P : Nat} {S : Cs} {g cc u uc : Nat} {la : Option Addr} {lc : Nat} {ta : Option Addr} {tc : Nat} {w : World} (h : Uc P S g cc u uc la lc ta tc w) {m : Nat} (hG : Gd m S) (who : Int) (t : ByteArray) (hT : Tx Q t) :
  Calls Tryz.prog 65 #[.pointer (some ⟨P, 0, none⟩), .int .i64 who, .string t] w fun e w' => e = .returned (.tuple #[]) ∧ Rcv Q P S t g cc u uc la lc (wbs P g u ta) w w' := by
 have no : ∀ w', Below w.heap.size w w' → Rcv Q P S t g cc u uc la lc (wbs P g u ta) w w' := fun w' hb => ⟨S, ta, tc, .inl rfl, h.below hb, Kp.of_below hb, fun b hb => .inl (by simp [wbs, hb])⟩
 rcases hT with ⟨y, hQ, hy, hok, rfl⟩ | ⟨h1, h2⟩
 ·cases hu : isUpB S who with
  | false => exact (receive_down h hG who y.text (y.pk hy) (dec_ok y hy hok) hu).mono fun e w' he => ⟨he.1, no w' he.2⟩
  | true =>
   have hd := hu
   unfold isUpB isD at hd
   rw [Bool.and_eq_true, decide_eq_true_eq] at hd
   obtain ⟨i, rfl⟩ : ∃ i : Nat, who = (i : Int) := ⟨who.toNat, by omega⟩
   obtain ⟨x, hx⟩ : ∃ x, S.cs[i]? = some x := ⟨_, List.getElem?_eq_getElem (by omega)⟩
   refine (receive_ok h hG i y.text (y.pk hy) (dec_ok y hy hok) hu x hx).mono fun e w' he => ?_
   obtain ⟨he, a, k, ta', tc', h5, k5, hA⟩ := he
   exact ⟨he, _, ta', tc', .inr ⟨i, x, y, hy, a, k, _, hQ, rfl, hok, hx, rfl, rfl⟩, h5, k5, hA⟩
 ·exact (receive_no who t 51 (by decide) (dec_no t h1 h2)).mono fun e w' he => ⟨he.1, no w' he.2⟩
def Adn (P : Nat) (Q : Cs → Prop) (g cc u uc : Nat) (W : List Nat) (w w' : World) : Prop :=
 ∃ S' la lc ta' tc', Q S' ∧ Uc P S' g cc u uc la lc ta' tc' w' ∧ Kp W w w' ∧ ∀ b ∈ blkOf ta', b ∈ W ∨ w.heap.size ≤ b
def TkL (M : List Le) (z : Le) (bo : Bool) (B : Nat) (e : Ending) (w' : World) : Prop := ∃ a c, e = .returned (.tuple #[.slice a M.length c, .agg z.arr, .bool bo]) ∧ Li Le.vals B a M w' ∧ (M.length ≤ c ∧ c ≤ 9223372036854775807)
theorem got_mem {f u ix : Int} {L : List Le} (h : isL f u ix L = true) : gotL f u ix L ∈ L := by
 unfold isL at h
 unfold gotL
 cases hp : pickL f u ix L with
 | none => rw [hp] at h; cases h
 | some p =>
  have := pickL_lt hp
  show L.getD p Le.zero ∈ L
  rw [List.getD_eq_getElem?_getD, List.getElem?_eq_getElem this]
  exact List.getElem_mem _
theorem left_mem {f u ix : Int} {L : List Le} : (∀ l ∈ leftL f u ix L, l ∈ L) ∧ (leftL f u ix L).length ≤ L.length := by
 unfold leftL
 split
 ·exact ⟨fun _ h => h, Nat.le_refl _⟩
 ·refine ⟨fun l hl => ?_, by simp; omega⟩
  rcases List.mem_append.1 hl with h | h
  ·exact List.mem_of_mem_take h
  ·exact List.mem_of_mem_drop h
set_option maxHeartbeats 8000000 in
theorem arrive_ok {Q : Pw → Prop} {P : Nat} {S : Cs} {g cc u uc : Nat} {la : Option Addr} {lc : Nat} {ta : Option Addr} {tc : Nat} {w : World} (h : Uc P S g cc u uc la lc ta tc w) {m : Nat} (hG : Gd m S) (d : De) (hix : -9223372036854775808 ≤ d.ix ∧ d.ix ≤ 9223372036854775807) (hT : ∀ l ∈ S.ls, Tx Q l.t) :
  Calls Tryz.prog 43 #[.pointer (some ⟨P, 0, none⟩), .agg d.arr] w fun e w' => e = .returned (.tuple #[]) ∧ Adn P (fun S' => S' = S ∨ ∃ l ∈ S.ls, RcS Q ⟨S.wait, S.cs, S.up, leftL d.who d.u d.ix S.ls, S.t⟩ l.t S') g cc u uc (wbs P g u ta) w w' := by
 obtain ⟨q, eq⟩ : ∃ q, Hid (S.ls.length = q) := ⟨_, rfl⟩
 have hb := below_box w (.cells d.arr 45)
 have b0 := blk_new w d.arr 45
 have hsV : w.heap.size + 1 ≤ (w.alloc (.cells d.arr 45)).heap.size := by simp
 have hln := hG.l
 have hLM := left_mem (f := d.who) (u := d.u) (ix := d.ix) (L := S.ls)
 have hgm := fun h => got_mem (f := d.who) (u := d.u) (ix := d.ix) (L := S.ls) h
 have pT : ∀ u', Li Le.vals 0 la S.ls u' → Calls Tryz.prog 45 #[.slice la S.ls.length lc, .int .i64 d.who, .int .i64 d.u, .int .i64 d.ix] u' fun e w' => TkL (leftL d.who d.u d.ix S.ls) (gotL d.who d.u d.ix S.ls) (isL d.who d.u d.ix S.ls) u'.heap.size e w' ∧ Below u'.heap.size u' w' := fun u' hu => (ltake_ok S.ls la lc d.who d.u d.ix hix (by omega) h.flc.1 h.flc.2 u' hu).mono fun e w' he => by
  obtain ⟨⟨a, c, e1, e2⟩, e3⟩ := he
  exact ⟨⟨a, c, e1, e2.li, e2.cap, e2.mx⟩, e3⟩
 obtain ⟨M, eM⟩ : ∃ M, Hid (leftL d.who d.u d.ix S.ls = M) := ⟨_, rfl⟩
 obtain ⟨z, ez⟩ : ∃ z, Hid (gotL d.who d.u d.ix S.ls = z) := ⟨_, rfl⟩
 obtain ⟨bo, eb⟩ : ∃ bo, Hid (isL d.who d.u d.ix S.ls = bo) := ⟨_, rfl⟩
 rw [eM.out, ez.out, eb.out, eq.out] at pT
 rw [eM.out] at hLM ⊢
 rw [ez.out, eb.out] at hgm
 clear eM ez eb hix
 go_enter Tryz.func43, Tryz.ntmps43
 go_upto_region 1 with fail
 generalize w.alloc (Obj.cells d.arr 45) = V at hb b0 hsV ⊢
 have hV := h.below hb
 go_cut [5, 4, 6] from 7 to 22 (fun pv lv bv wx => ∃ ma mc y, pv = .pointer (some ⟨y, 0, none⟩) ∧ lv = .slice ma M.length mc ∧ bv = .bool bo ∧ V.heap.size ≤ y ∧ Blk y z.arr 97 wx ∧ Li Le.vals V.heap.size ma M wx ∧ (M.length ≤ mc ∧ mc ≤ 9223372036854775807) ∧ Below V.heap.size V wx)
 case first =>
  refine wp_region_held_drew (S := fun w' => Below V.heap.size V w') (by kernel_rfl) (Below.refl _ _).drew (fun hHeld => ?_)
  refine tkH 0 (v := ?v1) rfl (by kernel_rfl) (fun _ _ _ h => h) (Or.inl ⟨by rfl, ?hy1⟩) hHeld ?_
  case hy1 => (intro w hSw; clear hSw; go_simp; try with_reducible rfl)
  try simp only [yA, yB, yC, Act.put, yD, yE, yF]
  refine tkH 1 (v := ?v2) rfl (by kernel_rfl) (fun _ _ _ h => h) (Or.inl ⟨by rfl, ?hy2⟩) hHeld ?_
  case hy2 => (intro w hSw; clear hSw; go_simp; try with_reducible rfl)
  try simp only [yA, yB, yC, Act.put, yD, yE, yF]
  refine tkH 2 (v := ?v3) rfl (by kernel_rfl) (fun _ _ _ h => h) (Or.inl ⟨by rfl, ?hy3⟩) hHeld ?_
  case hy3 => (intro w hSw; clear hSw; go_simp; try with_reducible rfl)
  try simp only [yA, yB, yC, Act.put, yD, yE, yF]
  refine tkH 3 (v := ?v4) rfl (by kernel_rfl) (fun _ _ _ h => h) (Or.inl ⟨by rfl, ?hy4⟩) hHeld ?_
  case hy4 => (intro w hSw; clear hSw; go_simp; try with_reducible rfl)
  try simp only [yA, yB, yC, Act.put, yD, yE, yF]
  refine tkH 4 (v := ?v5) rfl (by kernel_rfl) (fun _ _ _ h => h) (Or.inl ⟨by rfl, ?hy5⟩) hHeld ?_
  case hy5 => (intro w hSw; have hc : w.cell? ⟨P, 3, none⟩ = some (.slice la q lc) := (by rw [← eq.out]; exact (hV.below hSw).fb.cell 3 _ rfl); clear hSw; go_simp; try with_reducible rfl)
  try simp only [yA, yB, yC, Act.put, yD, yE, yF]
  refine tkH 5 (v := ?v6) rfl (by kernel_rfl) (fun _ _ _ h => h) (Or.inl ⟨by rfl, ?hy6⟩) hHeld ?_
  case hy6 => (intro w hSw; clear hSw; go_simp; try with_reducible rfl)
  try simp only [yA, yB, yC, Act.put, yD, yE, yF]
  refine tkH 6 (v := ?v7) rfl (by kernel_rfl) (fun _ _ _ h => h) (Or.inl ⟨by rfl, ?hy7⟩) hHeld ?_
  case hy7 => (intro w hSw; have hc := (b0.below hSw).cell 1 (.int .i64 d.who) rfl; clear hSw; go_simp; try with_reducible rfl)
  try simp only [yA, yB, yC, Act.put, yD, yE, yF]
  refine tkH 7 (v := ?v8) rfl (by kernel_rfl) (fun _ _ _ h => h) (Or.inl ⟨by rfl, ?hy8⟩) hHeld ?_
  case hy8 => (intro w hSw; clear hSw; go_simp; try with_reducible rfl)
  try simp only [yA, yB, yC, Act.put, yD, yE, yF]
  refine tkH 8 (v := ?v9) rfl (by kernel_rfl) (fun _ _ _ h => h) (Or.inl ⟨by rfl, ?hy9⟩) hHeld ?_
  case hy9 => (intro w hSw; have hc := (b0.below hSw).cell 2 (.int .i64 d.u) rfl; clear hSw; go_simp; try with_reducible rfl)
  try simp only [yA, yB, yC, Act.put, yD, yE, yF]
  refine tkH 9 (v := ?v10) rfl (by kernel_rfl) (fun _ _ _ h => h) (Or.inl ⟨by rfl, ?hy10⟩) hHeld ?_
  case hy10 => (intro w hSw; clear hSw; go_simp; try with_reducible rfl)
  try simp only [yA, yB, yC, Act.put, yD, yE, yF]
  refine tkH 10 (v := ?v11) rfl (by kernel_rfl) (fun _ _ _ h => h) (Or.inl ⟨by rfl, ?hy11⟩) hHeld ?_
  case hy11 => (intro w hSw; have hc := (b0.below hSw).cell 3 (.int .i64 d.ix) rfl; clear hSw; go_simp; try with_reducible rfl)
  try simp only [yA, yB, yC, Act.put, yD, yE, yF]
  refine wpAnyH_ready (rs := [11, 16]) (by kernel_rfl) (by simp) ?_
  refine AllReadyH.cons rfl (fun K hK => ?_) (AllReadyH.cons rfl (fun K hK => ?_) (AllReadyH.nil))
  ·have hcz := hHeld.size
   go_simp
   go_wp2_with (refine (pT _ (hV.below hHeld).fl).mono ?_; rintro r u1 ⟨⟨ma, mc, rfl, l2, hmc⟩, hb⟩)
   refine hK.out _ _ (hHeld.below hb) (fun hHeld => ?_)
   clear hK K hb
   refine tkH 12 (v := ?v12) rfl (by kernel_rfl) (fun _ _ _ h => h) (Or.inl ⟨by rfl, ?hy12⟩) hHeld ?_
   case hy12 => (intro w hSw; clear hSw; go_simp; try with_reducible rfl)
   try simp only [yA, yB, yC, Act.put, yD, yE, yF]
   refine tkH 13 (v := ?v13) rfl (by kernel_rfl) (fun _ _ _ h => h) (Or.inl ⟨by rfl, ?hy13⟩) hHeld ?_
   case hy13 => (intro w hSw; clear hSw; go_simp; try with_reducible rfl)
   try simp only [yA, yB, yC, Act.put, yD, yE, yF]
   refine tkH 14 (v := ?v14) rfl (by kernel_rfl) (fun _ _ _ h => h) (Or.inl ⟨by rfl, ?hy14⟩) hHeld ?_
   case hy14 => (intro w hSw; clear hSw; go_simp; try with_reducible rfl)
   try simp only [yA, yB, yC, Act.put, yD, yE, yF]
   refine tkH 15 (v := ?v15) rfl (by kernel_rfl) (fun _ _ _ h => h) (Or.inl ⟨by rfl, ?hy15⟩) hHeld ?_
   case hy15 => (intro w hSw; clear hSw; go_simp; try with_reducible rfl)
   try simp only [yA, yB, yC, Act.put, yD, yE, yF]
   refine wpAnyH_ready (rs := [16]) (by kernel_rfl) (by simp) ?_
   refine AllReadyH.cons rfl (fun K hK => ?_) (AllReadyH.nil)
   rw [if_pos (by rfl)]
   refine wp_alloc_any zeroLe rfl ?_
   intro yp u2 y0 hb yl yt
   have yg := Nat.le_trans hHeld.size yl
   have ho_l2 := Off.li l2 yp (.inr yl)
   replace l2 := l2.below hb
   refine hK.out _ _ (hHeld.below hb) (fun hHeld => ?_)
   clear hK K hb yl yt
   try simp only [yA, yB, yC, Act.put, yD, yE, yF]
   refine tkH 17 (v := ?v16) rfl (by kernel_rfl) (fun _ _ _ h => h) (Or.inl ⟨by rfl, ?hy16⟩) hHeld ?_
   case hy16 => (intro w hSw; clear hSw; go_simp; try with_reducible rfl)
   try simp only [yA, yB, yC, Act.put, yD, yE, yF]
   refine wpAnyH_ready (rs := [18]) (by kernel_rfl) (by simp) ?_
   refine AllReadyH.cons rfl (fun K hK => ?_) (AllReadyH.nil)
   rw [if_pos (by rfl)]
   refine wp_store_all 97 _ _ rfl (cells := z.arr) y0 rfl rfl sizeLe rfl z.arr_one ?_
   intro u3 hn9 hk9
   replace y0 := hn9
   replace l2 := l2.off hk9 (fun q hq => by simp at hq; subst hq; exact ho_l2)
   refine hK.out _ _ (below_kp hHeld hk9 yg) (fun hHeld => ?_)
   clear hK K hk9 hn9
   try simp only [yA, yB, yC, Act.put, yD, yE, yF]
   refine tkH 19 (v := ?v17) rfl (by kernel_rfl) (fun _ _ _ h => h) (Or.inl ⟨by rfl, ?hy17⟩) hHeld ?_
   case hy17 => (intro w hSw; clear hSw; go_simp; try with_reducible rfl)
   try simp only [yA, yB, yC, Act.put, yD, yE, yF]
   refine wpAnyH_done (by kernel_rfl) ?_ _
   go_wp2_with fail
   go_meet
   exact ⟨ma, mc, yp, rfl, rfl, rfl, yg, y0, l2.mono hcz, hmc, hHeld⟩
  ·rw [if_pos (by rfl)]
   refine wp_alloc_any zeroLe rfl ?_
   intro yp u4 y0 hb yl yt
   have yg := Nat.le_trans hHeld.size yl
   refine hK.out _ _ (hHeld.below hb) (fun hHeld => ?_)
   clear hK K hb yl
   try simp only [yA, yB, yC, Act.put, yD, yE, yF]
   refine wpAnyH_ready (rs := [11]) (by kernel_rfl) (by simp) ?_
   refine AllReadyH.cons rfl (fun K hK => ?_) (AllReadyH.nil)
   have hcz := hHeld.size
   go_simp
   go_wp2_with (refine (pT _ (hV.below hHeld).fl).mono ?_; rintro r u5 ⟨⟨ma, mc, rfl, l2, hmc⟩, hb⟩)
   replace y0 := y0.below hb
   have ho_l2 := Off.li l2 yp (.inl yt)
   refine hK.out _ _ (hHeld.below hb) (fun hHeld => ?_)
   clear hK K hb
   refine tkH 12 (v := ?v18) rfl (by kernel_rfl) (fun _ _ _ h => h) (Or.inl ⟨by rfl, ?hy18⟩) hHeld ?_
   case hy18 => (intro w hSw; clear hSw; go_simp; try with_reducible rfl)
   try simp only [yA, yB, yC, Act.put, yD, yE, yF]
   refine tkH 13 (v := ?v19) rfl (by kernel_rfl) (fun _ _ _ h => h) (Or.inl ⟨by rfl, ?hy19⟩) hHeld ?_
   case hy19 => (intro w hSw; clear hSw; go_simp; try with_reducible rfl)
   try simp only [yA, yB, yC, Act.put, yD, yE, yF]
   refine tkH 14 (v := ?v20) rfl (by kernel_rfl) (fun _ _ _ h => h) (Or.inl ⟨by rfl, ?hy20⟩) hHeld ?_
   case hy20 => (intro w hSw; clear hSw; go_simp; try with_reducible rfl)
   try simp only [yA, yB, yC, Act.put, yD, yE, yF]
   refine tkH 15 (v := ?v21) rfl (by kernel_rfl) (fun _ _ _ h => h) (Or.inl ⟨by rfl, ?hy21⟩) hHeld ?_
   case hy21 => (intro w hSw; clear hSw; go_simp; try with_reducible rfl)
   try simp only [yA, yB, yC, Act.put, yD, yE, yF]
   refine tkH 17 (v := ?v22) rfl (by kernel_rfl) (fun _ _ _ h => h) (Or.inl ⟨by rfl, ?hy22⟩) hHeld ?_
   case hy22 => (intro w hSw; clear hSw; go_simp; try with_reducible rfl)
   try simp only [yA, yB, yC, Act.put, yD, yE, yF]
   refine wpAnyH_ready (rs := [18]) (by kernel_rfl) (by simp) ?_
   refine AllReadyH.cons rfl (fun K hK => ?_) (AllReadyH.nil)
   rw [if_pos (by rfl)]
   refine wp_store_all 97 _ _ rfl (cells := z.arr) y0 rfl rfl sizeLe rfl z.arr_one ?_
   intro u6 hn9 hk9
   replace y0 := hn9
   replace l2 := l2.off hk9 (fun q hq => by simp at hq; subst hq; exact ho_l2)
   refine hK.out _ _ (below_kp hHeld hk9 yg) (fun hHeld => ?_)
   clear hK K hk9 hn9
   try simp only [yA, yB, yC, Act.put, yD, yE, yF]
   refine tkH 19 (v := ?v23) rfl (by kernel_rfl) (fun _ _ _ h => h) (Or.inl ⟨by rfl, ?hy23⟩) hHeld ?_
   case hy23 => (intro w hSw; clear hSw; go_simp; try with_reducible rfl)
   try simp only [yA, yB, yC, Act.put, yD, yE, yF]
   refine wpAnyH_done (by kernel_rfl) ?_ _
   go_wp2_with fail
   go_meet
   exact ⟨ma, mc, yp, rfl, rfl, rfl, yg, y0, l2.mono hcz, hmc, hHeld⟩
 case rest =>
  obtain ⟨ma, mc, y, rfl, rfl, rfl, yg, y0, l2, hmc, hb3⟩ := hcut
  rename World => w4
  have hU := hV.below hb3
  have hlt := hV.lt
  have hbb : Below w.heap.size w w4 := hb.trans (hb3.mono hb.size)
  replace b0 := b0.below hb3
  have c2 : w4.cell? ⟨w.heap.size, 2, none⟩ = some (.int .i64 d.u) := b0.cell 2 _ rfl
  have c3 : w4.cell? ⟨y, 2, none⟩ = some (.string z.t) := y0.cell 2 _ rfl
  have hwV : w.heap.size < V.heap.size := Nat.lt_of_lt_of_le (Nat.lt_succ_self _) hsV
  clear pT hb3
  cases bo with
  | false =>
   go_wp2_with fail
   (try simp only [Exit.inBlock, Exit.then])
   refine bodyPost_ret (results_none rfl _ _ _) rfl ?_
   exact ⟨rfl, S, la, lc, ta, tc, .inl rfl, hU, Kp.of_below hbb, fun b hb => .inl (by simp [wbs, hb])⟩
  | true =>
   have hz := hgm rfl
   go_upto_region 4 with (go_big_may; refine store_one rfl 27 _ _ rfl (off := 3) (.slice ma M.length mc) hU.fb rfl rfl rfl rfl (by kernel_rfl) (show 3 + 1 ≤ 5 by decide) ?_; intro w5 b5 k5)
   rw [uac_ls] at b5
   have h5 := hU.setLs M k5 b5 (l2.mono (Nat.zero_le _)) hmc (fun b hb1 => Off.li l2 b (.inl (hlt b hb1)))
   have nP := h.fb.lt
   replace c2 : w5.cell? ⟨w.heap.size, 2, none⟩ = some (.int .i64 d.u) := (b0.kp1 k5 (by omega)).cell 2 _ rfl
   replace c3 : w5.cell? ⟨y, 2, none⟩ = some (.string z.t) := (y0.kp1 k5 (by omega)).cell 2 _ rfl
   have hG5 : Gd m ⟨S.wait, S.cs, S.up, M, S.t⟩ := ⟨hG.b, hG.n, hG.c, hG.t, by show M.length ≤ _; have := hLM.2; omega⟩
   go_wp2_with fail
   refine (receive_any h5 hG5 d.u z.t (hT z hz)).mono ?_
   rintro r w6 ⟨rfl, S', ta', tc', hS, h6, k6, hA⟩
   clear hU h5 hG5 hG hV c2 c3 b5
   go_wp2_with fail
   go_end0
   exact ⟨rfl, S', ma, mc, ta', tc', .inr ⟨z, hz, hS⟩, h6, ((Kp.of_below hbb).trans (k5.mono (by simp [wbs]))).trans k6, fun b hb => (hA b hb).imp id (fun h => Nat.le_trans (Nat.le_trans hbb.size k5.size) h)⟩
theorem RcS.ls {Q : Pw → Prop} {S : Cs} {t : ByteArray} {S' : Cs} (h : RcS Q S t S') : S'.ls = S.ls := by
 rcases h with rfl | ⟨_, _, _, _, _, _, _, _, _, _, _, _, rfl⟩ <;> rfl
set_option maxHeartbeats 8000000 in
theorem stay_ok {Q : Pw → Prop} {P : Nat} {S : Cs} {g cc u uc : Nat} {la : Option Addr} {lc : Nat} {ta : Option Addr} {tc : Nat} {w : World} (h : Uc P S g cc u uc la lc ta tc w) {m : Nat} (hG : Gd m S) (d : De) (hix : -9223372036854775808 ≤ d.ix ∧ d.ix ≤ 9223372036854775807) (hT : ∀ l ∈ S.ls, Tx Q l.t) :
  Calls Tryz.prog 44 #[.pointer (some ⟨P, 0, none⟩), .agg d.arr] w fun e w' => e = .returned (.tuple #[]) ∧ Adn P (fun S' => S' = S ∨ ∃ l ∈ S.ls, RcS Q S l.t S') g cc u uc (wbs P g u ta) w w' := by
 obtain ⟨q, eq⟩ : ∃ q, Hid (S.ls.length = q) := ⟨_, rfl⟩
 have hb := below_box w (.cells d.arr 45)
 have b0 := blk_new w d.arr 45
 have hln := hG.l
 have pF := fun u' hu => find_ok S.ls la lc d.who d.u d.ix hix (by omega) u' hu
 have hpk : isL d.who d.u d.ix S.ls = true → ∃ j l, (pickL d.who d.u d.ix S.ls).getD 0 = j ∧ S.ls[j]? = some l := fun hi => by
  unfold isL at hi
  cases hp : pickL d.who d.u d.ix S.ls with
  | none => rw [hp] at hi; cases hi
  | some p => exact ⟨p, _, rfl, List.getElem?_eq_getElem (pickL_lt hp)⟩
 obtain ⟨bo, eb⟩ : ∃ bo, Hid (isL d.who d.u d.ix S.ls = bo) := ⟨_, rfl⟩
 obtain ⟨j, ej⟩ : ∃ j, Hid ((pickL d.who d.u d.ix S.ls).getD 0 = j) := ⟨_, rfl⟩
 rw [eb.out, ej.out, eq.out] at pF
 rw [eb.out, ej.out] at hpk
 clear eb ej hix
 go_enter Tryz.func44, Tryz.ntmps44
 go_upto_region 1 with fail
 generalize w.alloc (Obj.cells d.arr 45) = V at hb b0 ⊢
 have hV := h.below hb
 refine wp_region_held_drew (S := fun w' => Below V.heap.size V w') (by kernel_rfl) (Below.refl _ _).drew (fun hHeld => ?_)
 refine tkH 0 (v := ?v24) rfl (by kernel_rfl) (fun _ _ _ h => h) (Or.inl ⟨by rfl, ?hy24⟩) hHeld ?_
 case hy24 => (intro w hSw; clear hSw; go_simp; try with_reducible rfl)
 try simp only [yA, yB, yC, Act.put, yD, yE, yF]
 refine tkH 1 (v := ?v25) rfl (by kernel_rfl) (fun _ _ _ h => h) (Or.inl ⟨by rfl, ?hy25⟩) hHeld ?_
 case hy25 => (intro w hSw; clear hSw; go_simp; try with_reducible rfl)
 try simp only [yA, yB, yC, Act.put, yD, yE, yF]
 refine tkH 2 (v := ?v26) rfl (by kernel_rfl) (fun _ _ _ h => h) (Or.inl ⟨by rfl, ?hy26⟩) hHeld ?_
 case hy26 => (intro w hSw; clear hSw; go_simp; try with_reducible rfl)
 try simp only [yA, yB, yC, Act.put, yD, yE, yF]
 refine tkH 3 (v := ?v27) rfl (by kernel_rfl) (fun _ _ _ h => h) (Or.inl ⟨by rfl, ?hy27⟩) hHeld ?_
 case hy27 => (intro w hSw; clear hSw; go_simp; try with_reducible rfl)
 try simp only [yA, yB, yC, Act.put, yD, yE, yF]
 refine tkH 4 (v := ?v28) rfl (by kernel_rfl) (fun _ _ _ h => h) (Or.inl ⟨by rfl, ?hy28⟩) hHeld ?_
 case hy28 => (intro w hSw; have hc : w.cell? ⟨P, 3, none⟩ = some (.slice la q lc) := (by rw [← eq.out]; exact (hV.below hSw).fb.cell 3 _ rfl); clear hSw; go_simp; try with_reducible rfl)
 try simp only [yA, yB, yC, Act.put, yD, yE, yF]
 refine tkH 5 (v := ?v29) rfl (by kernel_rfl) (fun _ _ _ h => h) (Or.inl ⟨by rfl, ?hy29⟩) hHeld ?_
 case hy29 => (intro w hSw; clear hSw; go_simp; try with_reducible rfl)
 try simp only [yA, yB, yC, Act.put, yD, yE, yF]
 refine tkH 6 (v := ?v30) rfl (by kernel_rfl) (fun _ _ _ h => h) (Or.inl ⟨by rfl, ?hy30⟩) hHeld ?_
 case hy30 => (intro w hSw; have hc := (b0.below hSw).cell 1 (.int .i64 d.who) rfl; clear hSw; go_simp; try with_reducible rfl)
 try simp only [yA, yB, yC, Act.put, yD, yE, yF]
 refine tkH 7 (v := ?v31) rfl (by kernel_rfl) (fun _ _ _ h => h) (Or.inl ⟨by rfl, ?hy31⟩) hHeld ?_
 case hy31 => (intro w hSw; clear hSw; go_simp; try with_reducible rfl)
 try simp only [yA, yB, yC, Act.put, yD, yE, yF]
 refine tkH 8 (v := ?v32) rfl (by kernel_rfl) (fun _ _ _ h => h) (Or.inl ⟨by rfl, ?hy32⟩) hHeld ?_
 case hy32 => (intro w hSw; have hc := (b0.below hSw).cell 2 (.int .i64 d.u) rfl; clear hSw; go_simp; try with_reducible rfl)
 try simp only [yA, yB, yC, Act.put, yD, yE, yF]
 refine tkH 9 (v := ?v33) rfl (by kernel_rfl) (fun _ _ _ h => h) (Or.inl ⟨by rfl, ?hy33⟩) hHeld ?_
 case hy33 => (intro w hSw; clear hSw; go_simp; try with_reducible rfl)
 try simp only [yA, yB, yC, Act.put, yD, yE, yF]
 refine tkH 10 (v := ?v34) rfl (by kernel_rfl) (fun _ _ _ h => h) (Or.inl ⟨by rfl, ?hy34⟩) hHeld ?_
 case hy34 => (intro w hSw; have hc := (b0.below hSw).cell 3 (.int .i64 d.ix) rfl; clear hSw; go_simp; try with_reducible rfl)
 try simp only [yA, yB, yC, Act.put, yD, yE, yF]
 refine wpAnyH_ready (rs := [11]) (by kernel_rfl) (by simp) ?_
 refine AllReadyH.cons rfl (fun K hK => ?_) (AllReadyH.nil)
 go_simp
 go_wp2_with (refine (pF _ (hV.below hHeld).fl).mono ?_; rintro r u1 ⟨rfl, hb⟩)
 refine hK.out _ _ (hHeld.below hb) (fun hHeld => ?_)
 clear hK K hb 
 refine tkH 12 (v := ?v35) rfl (by kernel_rfl) (fun _ _ _ h => h) (Or.inl ⟨by rfl, ?hy35⟩) hHeld ?_
 case hy35 => (intro w hSw; clear hSw; go_simp; try with_reducible rfl)
 try simp only [yA, yB, yC, Act.put, yD, yE, yF]
 refine tkH 13 (v := ?v36) rfl (by kernel_rfl) (fun _ _ _ h => h) (Or.inl ⟨by rfl, ?hy36⟩) hHeld ?_
 case hy36 => (intro w hSw; clear hSw; go_simp; try with_reducible rfl)
 try simp only [yA, yB, yC, Act.put, yD, yE, yF]
 refine tkH 14 (v := ?v37) rfl (by kernel_rfl) (fun _ _ _ h => h) (Or.inl ⟨by rfl, ?hy37⟩) hHeld ?_
 case hy37 => (intro w hSw; clear hSw; go_simp; try with_reducible rfl)
 try simp only [yA, yB, yC, Act.put, yD, yE, yF]
 refine tkH 15 (v := ?v38) rfl (by kernel_rfl) (fun _ _ _ h => h) (Or.inl ⟨by rfl, ?hy38⟩) hHeld ?_
 case hy38 => (intro w hSw; clear hSw; go_simp; try with_reducible rfl)
 try simp only [yA, yB, yC, Act.put, yD, yE, yF]
 refine tkH 16 (v := ?v39) rfl (by kernel_rfl) (fun _ _ _ h => h) (Or.inl ⟨by rfl, ?hy39⟩) hHeld ?_
 case hy39 => (intro w hSw; clear hSw; go_simp; try with_reducible rfl)
 try simp only [yA, yB, yC, Act.put, yD, yE, yF]
 refine wpAnyH_done (by kernel_rfl) ?_ _
 have hU := hV.below hHeld
 have kU : Kp (wbs P g u ta) w _ := (Kp.of_below hb).trans (Kp.of_below hHeld)
 replace b0 := b0.below hHeld
 clear hHeld pF hV hb
 cases bo with
 | false =>
  go_wp2_with fail
  go_end0
  exact ⟨rfl, S, la, lc, ta, tc, .inl rfl, hU, kU, fun b hb => .inl (by simp [wbs, hb])⟩
 | true =>
  obtain ⟨_, l, rfl, hl⟩ := hpk rfl
  have hlm := List.mem_of_getElem? hl
  obtain ⟨b, o, rfl, _, hbl, hr⟩ := hU.fl.at Le.vals_length j l hl
  have hjq : j < q := by rw [← eq.out]; exact (List.getElem?_eq_some_iff.1 hl).1
  have j0 : (j : Int) < (q : Int) := by omega
  have j1 : (0 : Int) ≤ (j : Int) := by omega
  clear hpk hr
  go_upto_region 3 with fail
  replace hU := hU.below (Below.refl _ _).drew
  replace kU := kU.trans (Kp.drew _ _)
  have c3 := hU.fb.cell 3 (.slice (some ⟨b, o, none⟩) S.ls.length lc) rfl
  rw [eq.out] at c3
  have c4 := hU.fl.rng Le.vals_length j l hl 2 (.string l.t) rfl
  refine wp_region_held_drew (S := fun w' => w'.cell? ⟨P, 3, none⟩ = some (.slice (some ⟨b, o, none⟩) q lc) ∧ w'.cell? ⟨b, o + j * 4 + 2, none⟩ = some (.string l.t) ∧ Blk w.heap.size d.arr 45 w') (by kernel_rfl) ⟨c3, c4, b0.drew⟩ (fun hHeld => ?_)
  refine tkH 0 (v := ?v40) rfl (by kernel_rfl) (fun _ _ _ h => h) (Or.inl ⟨by rfl, ?hy40⟩) hHeld ?_
  case hy40 => (intro w hSw; clear hSw; go_simp; try with_reducible rfl)
  try simp only [yA, yB, yC, Act.put, yD, yE, yF]
  refine tkH 1 (v := ?v41) rfl (by kernel_rfl) (fun _ _ _ h => h) (Or.inl ⟨by rfl, ?hy41⟩) hHeld ?_
  case hy41 => (intro w hSw; clear hSw; go_simp; try with_reducible rfl)
  try simp only [yA, yB, yC, Act.put, yD, yE, yF]
  refine tkH 2 (v := ?v42) rfl (by kernel_rfl) (fun _ _ _ h => h) (Or.inl ⟨by rfl, ?hy42⟩) hHeld ?_
  case hy42 => (intro w hSw; have hc := hSw.2.2.cell 2 (.int .i64 d.u) rfl; clear hSw; go_simp; try with_reducible rfl)
  try simp only [yA, yB, yC, Act.put, yD, yE, yF]
  refine tkH 3 (v := ?v43) rfl (by kernel_rfl) (fun _ _ _ h => h) (Or.inl ⟨by rfl, ?hy43⟩) hHeld ?_
  case hy43 => (intro w hSw; clear hSw; go_simp; try with_reducible rfl)
  try simp only [yA, yB, yC, Act.put, yD, yE, yF]
  refine tkH 4 (v := ?v44) rfl (by kernel_rfl) (fun _ _ _ h => h) (Or.inl ⟨by rfl, ?hy44⟩) hHeld ?_
  case hy44 => (intro w hSw; clear hSw; go_simp; try with_reducible rfl)
  try simp only [yA, yB, yC, Act.put, yD, yE, yF]
  refine tkH 5 (v := ?v45) rfl (by kernel_rfl) (fun _ _ _ h => h) (Or.inl ⟨by rfl, ?hy45⟩) hHeld ?_
  case hy45 => (intro w hSw; clear hSw; go_simp; try with_reducible rfl)
  try simp only [yA, yB, yC, Act.put, yD, yE, yF]
  refine tkH 6 (v := ?v46) rfl (by kernel_rfl) (fun _ _ _ h => h) (Or.inl ⟨by rfl, ?hy46⟩) hHeld ?_
  case hy46 => (intro w hSw; clear hSw; go_simp; try with_reducible rfl)
  try simp only [yA, yB, yC, Act.put, yD, yE, yF]
  refine tkH 7 (v := ?v47) rfl (by kernel_rfl) (fun _ _ _ h => h) (Or.inl ⟨by rfl, ?hy47⟩) hHeld ?_
  case hy47 => (intro w hSw; have hc := hSw.1; clear hSw; go_simp; try with_reducible rfl)
  try simp only [yA, yB, yC, Act.put, yD, yE, yF]
  refine tkH 8 (v := ?v48) rfl (by kernel_rfl) (fun _ _ _ h => h) (Or.inl ⟨by rfl, ?hy48⟩) hHeld ?_
  case hy48 => (intro w hSw; clear hSw; go_simp; try with_reducible rfl)
  try simp only [yA, yB, yC, Act.put, yD, yE, yF]
  refine tkH 9 (v := ?v49) rfl (by kernel_rfl) (fun _ _ _ h => h) (Or.inl ⟨by rfl, ?hy49⟩) hHeld ?_
  case hy49 => (intro w hSw; clear hSw; go_simp; try with_reducible rfl)
  try simp only [yA, yB, yC, Act.put, yD, yE, yF]
  refine tkH 10 (v := ?v50) rfl (by kernel_rfl) (fun _ _ _ h => h) (Or.inl ⟨by rfl, ?hy50⟩) hHeld ?_
  case hy50 => (intro w hSw; clear hSw; go_simp; try with_reducible rfl)
  try simp only [yA, yB, yC, Act.put, yD, yE, yF]
  refine tkH 11 (v := ?v51) rfl (by kernel_rfl) (fun _ _ _ h => h) (Or.inl ⟨by rfl, ?hy51⟩) hHeld ?_
  case hy51 => (intro w hSw; have hc := hSw.2.1; clear hSw; go_simp; try with_reducible rfl)
  try simp only [yA, yB, yC, Act.put, yD, yE, yF]
  refine wpAnyH_ready (rs := [12]) (by kernel_rfl) (by simp) ?_
  refine AllReadyH.cons rfl (fun K hK => ?_) (AllReadyH.nil)
  go_simp
  go_wp2_with (refine (receive_any hU hG d.u l.t (hT l hlm)).mono ?_; rintro r u1 ⟨rfl, S9, te, tf, hS, h6, k6, hA⟩)
  have e9 := RcS.ls hS
  refine hK.out _ _ ⟨by rw [← eq.out, ← e9]; exact h6.fb.cell 3 _ rfl, h6.fl.rng Le.vals_length j l (by rw [e9]; exact hl) 2 _ rfl, hHeld.2.2.kp k6 (fun hm => Nat.lt_irrefl _ (h.lt _ hm))⟩ (fun hHeld => ?_)
  clear hK K 
  refine wpAnyH_done (by kernel_rfl) ?_ _
  clear hU hG
  go_wp2_with fail
  go_end0
  exact ⟨rfl, S9, some ⟨b, o, none⟩, lc, te, tf, .inr ⟨l, hlm, hS⟩, h6, kU.trans k6, fun b hb => (hA b hb).imp id (fun h => Nat.le_trans kU.size h)⟩
end Go.Proofs.YthgfpdidilolgaaGreat
