/-
  Of the texts beneath these laws, in their order: ClN, ClD.
  Each theorem says its own conditions.
-/
import Derived.Test.YthgfpdidilolgaaGreatZ29
import Derived.Test.YthgfpdidilolgaaGreatZ27
import Derived.Test.YthgfpdidilolgaaGreatZ25
namespace Go.Proofs.YthgfpdidilolgaaGreat
set_option maxRecDepth 10000
set_option linter.unusedSimpArgs false
open Go.RowKit Go.Sort
set_option linter.unusedVariables false
def Tx (Q : Pw → Prop) (t : ByteArray) : Prop := (∃ y : Pw, Q y ∧ (∀ j, y.num j < 4294967296) ∧ y.ok = true ∧ t = y.text) ∨ (t.size = 641 ∧ Eld.Crc.okL t.data.toList = false)
def RcS (Q : Pw → Prop) (S : Cs) (who : Int) (t : ByteArray) (S' : Cs) : Prop := (S' = S ∧ (isUpB S who = false ∨ t.size = 641 ∧ Eld.Crc.okL t.data.toList = false)) ∨ ∃ (i : Nat) (x : Co × List Kt) (y : Pw) (hy : ∀ j, y.num j < 4294967296) (a : Option Addr) (k : Nat) (s : Sg), who = (i : Int) ∧ isUpB S who = true ∧ Q y ∧ t = y.text ∧ y.ok = true ∧ S.cs[i]? = some x ∧ s = recvS x.1 x.2 (y.pk hy) ∧ S' = becS S i (s.c.kp a s.L.length k) s.L x.1.conf s.t
def Rcv (Q : Pw → Prop) (P : Nat) (S : Cs) (who : Int) (t : ByteArray) (g cc u uc : Nat) (la : Option Addr) (lc : Nat) (W : List Nat) (w w' : World) : Prop :=
 ∃ S' ta' tc', RcS Q S who t S' ∧ Uc P S' g cc u uc la lc ta' tc' w' ∧ Kp W w w' ∧ ∀ b ∈ blkOf ta', b ∈ W ∨ w.heap.size ≤ b
theorem receive_any {Q : Pw → Prop} {P : Nat} {S : Cs} {g cc u uc : Nat} {la : Option Addr} {lc : Nat} {ta : Option Addr} {tc : Nat} {w : World} (h : Uc P S g cc u uc la lc ta tc w) {m : Nat} (hG : Gd m S) (who : Int) (t : ByteArray) (hT : Tx Q t) :
  Calls Tryz.prog 65 #[.pointer (some ⟨P, 0, none⟩), .int .i64 who, .string t] w fun e w' => e = .returned (.tuple #[]) ∧ Rcv Q P S who t g cc u uc la lc (wbs P g u ta) w w' := by
 have no : (isUpB S who = false ∨ t.size = 641 ∧ Eld.Crc.okL t.data.toList = false) → ∀ w', Below w.heap.size w w' → Rcv Q P S who t g cc u uc la lc (wbs P g u ta) w w' := fun hno w' hb => ⟨S, ta, tc, .inl ⟨rfl, hno⟩, h.below hb, Kp.of_below hb, fun b hb => .inl (by simp [wbs, hb])⟩
 rcases hT with ⟨y, hQ, hy, hok, rfl⟩ | ⟨h1, h2⟩
 ·cases hu : isUpB S who with
  | false => exact (receive_down h hG who y.text (y.pk hy) (dec_ok y hy hok) hu).mono fun e w' he => ⟨he.1, no (.inl hu) w' he.2⟩
  | true =>
   have hd := hu
   unfold isUpB isD at hd
   rw [Bool.and_eq_true, decide_eq_true_eq] at hd
   obtain ⟨i, rfl⟩ : ∃ i : Nat, who = (i : Int) := ⟨who.toNat, by omega⟩
   obtain ⟨x, hx⟩ : ∃ x, S.cs[i]? = some x := ⟨_, List.getElem?_eq_getElem (by omega)⟩
   refine (receive_ok h hG i y.text (y.pk hy) (dec_ok y hy hok) hu x hx).mono fun e w' he => ?_
   obtain ⟨he, a, k, ta', tc', h5, k5, hA⟩ := he
   exact ⟨he, _, ta', tc', .inr ⟨i, x, y, hy, a, k, _, rfl, hu, hQ, rfl, hok, hx, rfl, rfl⟩, h5, k5, hA⟩
 ·exact (receive_no who t 51 (by decide) (dec_no t h1 h2)).mono fun e w' he => ⟨he.1, no (.inr ⟨h1, h2⟩) w' he.2⟩
def ArS (Q : Pw → Prop) (S1 S : Cs) (d : De) (S' : Cs) : Prop := (isL d.who d.u d.ix S.ls = false ∧ S' = S) ∨ (isL d.who d.u d.ix S.ls = true ∧ RcS Q S1 d.u (gotL d.who d.u d.ix S.ls).t S')
def Adn (P : Nat) (Q : Cs → Prop) (g cc u uc : Nat) (W : List Nat) (w w' : World) : Prop :=
 ∃ S' la lc ta' tc', Q S' ∧ Uc P S' g cc u uc la lc ta' tc' w' ∧ Kp W w w' ∧ ∀ b ∈ blkOf ta', b ∈ W ∨ w.heap.size ≤ b
def TkL (M : List Le) (z : Le) (bo : Bool) (B : Nat) (e : Ending) (w' : World) : Prop := ∃ a c, e = .returned (.tuple #[.slice a M.length c, .agg z.arr, .bool bo]) ∧ Li Le.vals B a M w' ∧ (M.length ≤ c ∧ c ≤ 9223372036854775807)
theorem got_mem {f u ix : Int} {L : List Le} (h : isL f u ix L = true) : gotL f u ix L ∈ L := by
 unfold isL at h
 unfold gotL
 cases hp : pickL f u ix L with
 | none => rw [hp] at h; cases h
 | some p =>
  have := pickL_lt hp
  show L.getD p Le.zero ∈ L
  rw [List.getD_eq_getElem?_getD, List.getElem?_eq_getElem this]
  exact List.getElem_mem _
theorem left_mem {f u ix : Int} {L : List Le} : (∀ l ∈ leftL f u ix L, l ∈ L) ∧ (leftL f u ix L).length ≤ L.length := by
 unfold leftL
 split
 ·exact ⟨fun _ h => h, Nat.le_refl _⟩
 ·refine ⟨fun l hl => ?_, by simp; omega⟩
  rcases List.mem_append.1 hl with h | h
  ·exact List.mem_of_mem_take h
  ·exact List.mem_of_mem_drop h
set_option maxHeartbeats 8000000 in
theorem arrive_ok {Q : Pw → Prop} {P : Nat} {S : Cs} {g cc u uc : Nat} {la : Option Addr} {lc : Nat} {ta : Option Addr} {tc : Nat} {w : World} (h : Uc P S g cc u uc la lc ta tc w) {m : Nat} (hG : Gd m S) (d : De) (hix : -9223372036854775808 ≤ d.ix ∧ d.ix ≤ 9223372036854775807) (hT : ∀ l ∈ S.ls, Tx Q l.t) :
  Calls Tryz.prog 43 #[.pointer (some ⟨P, 0, none⟩), .agg d.arr] w fun e w' => e = .returned (.tuple #[]) ∧ Adn P (ArS Q ⟨S.wait, S.cs, S.up, leftL d.who d.u d.ix S.ls, S.t⟩ S d) g cc u uc (wbs P g u ta) w w' := by
 obtain ⟨q, eq⟩ : ∃ q, Hid (S.ls.length = q) := ⟨_, rfl⟩
 have hb := below_box w (.cells d.arr 45)
 have b0 := blk_new w d.arr 45
 have hsV : w.heap.size + 1 ≤ (w.alloc (.cells d.arr 45)).heap.size := by simp
 have hln := hG.l
 have hLM := left_mem (f := d.who) (u := d.u) (ix := d.ix) (L := S.ls)
 have hgm := fun h => got_mem (f := d.who) (u := d.u) (ix := d.ix) (L := S.ls) h
 have pT : ∀ u', Li Le.vals 0 la S.ls u' → Calls Tryz.prog 45 #[.slice la S.ls.length lc, .int .i64 d.who, .int .i64 d.u, .int .i64 d.ix] u' fun e w' => TkL (leftL d.who d.u d.ix S.ls) (gotL d.who d.u d.ix S.ls) (isL d.who d.u d.ix S.ls) u'.heap.size e w' ∧ Below u'.heap.size u' w' := fun u' hu => (ltake_ok S.ls la lc d.who d.u d.ix hix (by omega) h.flc.1 h.flc.2 u' hu).mono fun e w' he => by
  obtain ⟨⟨a, c, e1, e2⟩, e3⟩ := he
  exact ⟨⟨a, c, e1, e2.li, e2.cap, e2.mx⟩, e3⟩
 obtain ⟨M, eM⟩ : ∃ M, Hid (leftL d.who d.u d.ix S.ls = M) := ⟨_, rfl⟩
 obtain ⟨z, ez⟩ : ∃ z, Hid (gotL d.who d.u d.ix S.ls = z) := ⟨_, rfl⟩
 obtain ⟨bo, eb⟩ : ∃ bo, Hid (isL d.who d.u d.ix S.ls = bo) := ⟨_, rfl⟩
 rw [eM.out, ez.out, eb.out, eq.out] at pT
 rw [eM.out] at hLM ⊢
 rw [ez.out, eb.out] at hgm
 clear eM hix
 go_enter Tryz.func43, Tryz.ntmps43
 go_upto_region 1 with fail
 generalize w.alloc (Obj.cells d.arr 45) = V at hb b0 hsV ⊢
 have hV := h.below hb
 go_cut [5, 4, 6] from 7 to 22 (fun pv lv bv wx => ∃ ma mc y, pv = .pointer (some ⟨y, 0, none⟩) ∧ lv = .slice ma M.length mc ∧ bv = .bool bo ∧ V.heap.size ≤ y ∧ Blk y z.arr 97 wx ∧ Li Le.vals V.heap.size ma M wx ∧ (M.length ≤ mc ∧ mc ≤ 9223372036854775807) ∧ Below V.heap.size V wx)
 case first =>
  refine wp_region_held_drew (S := fun w' => Below V.heap.size V w') (by kernel_rfl) (Below.refl _ _).drew (fun hHeld => ?_)
  refine tkQ 0 hHeld ?_
  try simp only [yy]
  refine tkQ 1 hHeld ?_
  try simp only [yy]
  refine tkQ 2 hHeld ?_
  try simp only [yy]
  refine tkQ 3 hHeld ?_
  try simp only [yy]
  refine tkH 4 (v := ?v5) rfl (by kernel_rfl) (fun _ _ _ h => h) (Or.inl ⟨by rfl, ?hy5⟩) hHeld ?_
  case hy5 => (intro w hSw; have hc : w.cell? ⟨P, 3, none⟩ = some (.slice la q lc) := (by rw [← eq.out]; exact (hV.below hSw).fb.cell 3 _ rfl); clear hSw; go_simp; try with_reducible rfl)
  try simp only [yy]
  refine tkQ 5 hHeld ?_
  try simp only [yy]
  refine tkH 6 (v := ?v7) rfl (by kernel_rfl) (fun _ _ _ h => h) (Or.inl ⟨by rfl, ?hy7⟩) hHeld ?_
  case hy7 => (intro w hSw; have hc := (b0.below hSw).cell 1 (.int .i64 d.who) rfl; clear hSw; go_simp; try with_reducible rfl)
  try simp only [yy]
  refine tkQ 7 hHeld ?_
  try simp only [yy]
  refine tkH 8 (v := ?v9) rfl (by kernel_rfl) (fun _ _ _ h => h) (Or.inl ⟨by rfl, ?hy9⟩) hHeld ?_
  case hy9 => (intro w hSw; have hc := (b0.below hSw).cell 2 (.int .i64 d.u) rfl; clear hSw; go_simp; try with_reducible rfl)
  try simp only [yy]
  refine tkQ 9 hHeld ?_
  try simp only [yy]
  refine tkH 10 (v := ?v11) rfl (by kernel_rfl) (fun _ _ _ h => h) (Or.inl ⟨by rfl, ?hy11⟩) hHeld ?_
  case hy11 => (intro w hSw; have hc := (b0.below hSw).cell 3 (.int .i64 d.ix) rfl; clear hSw; go_simp; try with_reducible rfl)
  try simp only [yy]
  refine wpAnyH_ready (rs := [11, 16]) (by kernel_rfl) (by simp) ?_
  refine AllReadyH.cons rfl (fun K hK => ?_) (AllReadyH.cons rfl (fun K hK => ?_) (AllReadyH.nil))
  ·have hcz := hHeld.size
   go_simp
   go_wp2_with (refine (pT _ (hV.below hHeld).fl).mono ?_; rintro r u1 ⟨⟨ma, mc, rfl, l2, hmc⟩, hb⟩)
   refine hK.out _ _ (hHeld.below hb) (fun hHeld => ?_)
   clear hK K hb
   refine tkQ 12 hHeld ?_
   try simp only [yy]
   refine tkQ 13 hHeld ?_
   try simp only [yy]
   refine tkQ 14 hHeld ?_
   try simp only [yy]
   refine tkQ 15 hHeld ?_
   try simp only [yy]
   refine rd1 16 (fun K hK => ?_)
   rw [if_pos (by rfl)]
   refine wp_alloc_any zeroLe rfl ?_
   intro yp u2 y0 hb yl yt
   have yg := Nat.le_trans hHeld.size yl
   have ho_l2 := Off.li l2 yp (.inr yl)
   replace l2 := l2.below hb
   refine hK.out _ _ (hHeld.below hb) (fun hHeld => ?_)
   clear hK K hb yl yt
   try simp only [yy]
   refine tkQ 17 hHeld ?_
   try simp only [yy]
   refine rd1 18 (fun K hK => ?_)
   rw [if_pos (by rfl)]
   refine wp_store_all 97 _ _ rfl (cells := z.arr) y0 rfl rfl sizeLe rfl z.arr_one ?_
   intro u3 hn9 hk9
   replace y0 := hn9
   replace l2 := l2.off hk9 (fun q hq => by simp at hq; subst hq; exact ho_l2)
   refine hK.out _ _ (below_kp hHeld hk9 yg) (fun hHeld => ?_)
   clear hK K hk9 hn9
   try simp only [yy]
   refine tkQ 19 hHeld ?_
   try simp only [yy]
   refine wpAnyH_done (by kernel_rfl) ?_ _
   go_wp2_with fail
   go_meet
   exact ⟨ma, mc, yp, rfl, rfl, rfl, yg, y0, l2.mono hcz, hmc, hHeld⟩
  ·rw [if_pos (by rfl)]
   refine wp_alloc_any zeroLe rfl ?_
   intro yp u4 y0 hb yl yt
   have yg := Nat.le_trans hHeld.size yl
   refine hK.out _ _ (hHeld.below hb) (fun hHeld => ?_)
   clear hK K hb yl
   try simp only [yy]
   refine rd1 11 (fun K hK => ?_)
   have hcz := hHeld.size
   go_simp
   go_wp2_with (refine (pT _ (hV.below hHeld).fl).mono ?_; rintro r u5 ⟨⟨ma, mc, rfl, l2, hmc⟩, hb⟩)
   replace y0 := y0.below hb
   have ho_l2 := Off.li l2 yp (.inl yt)
   refine hK.out _ _ (hHeld.below hb) (fun hHeld => ?_)
   clear hK K hb
   refine tkQ 12 hHeld ?_
   try simp only [yy]
   refine tkQ 13 hHeld ?_
   try simp only [yy]
   refine tkQ 14 hHeld ?_
   try simp only [yy]
   refine tkQ 15 hHeld ?_
   try simp only [yy]
   refine tkQ 17 hHeld ?_
   try simp only [yy]
   refine rd1 18 (fun K hK => ?_)
   rw [if_pos (by rfl)]
   refine wp_store_all 97 _ _ rfl (cells := z.arr) y0 rfl rfl sizeLe rfl z.arr_one ?_
   intro u6 hn9 hk9
   replace y0 := hn9
   replace l2 := l2.off hk9 (fun q hq => by simp at hq; subst hq; exact ho_l2)
   refine hK.out _ _ (below_kp hHeld hk9 yg) (fun hHeld => ?_)
   clear hK K hk9 hn9
   try simp only [yy]
   refine tkQ 19 hHeld ?_
   try simp only [yy]
   refine wpAnyH_done (by kernel_rfl) ?_ _
   go_wp2_with fail
   go_meet
   exact ⟨ma, mc, yp, rfl, rfl, rfl, yg, y0, l2.mono hcz, hmc, hHeld⟩
 case rest =>
  obtain ⟨ma, mc, y, rfl, rfl, rfl, yg, y0, l2, hmc, hb3⟩ := hcut
  rename World => w4
  have hU := hV.below hb3
  have hlt := hV.lt
  have hbb : Below w.heap.size w w4 := hb.trans (hb3.mono hb.size)
  replace b0 := b0.below hb3
  have c2 : w4.cell? ⟨w.heap.size, 2, none⟩ = some (.int .i64 d.u) := b0.cell 2 _ rfl
  have c3 : w4.cell? ⟨y, 2, none⟩ = some (.string z.t) := y0.cell 2 _ rfl
  have hwV : w.heap.size < V.heap.size := Nat.lt_of_lt_of_le (Nat.lt_succ_self _) hsV
  clear pT hb3
  cases bo with
  | false =>
   go_wp2_with fail
   (try simp only [Exit.inBlock, Exit.then])
   refine bodyPost_ret (results_none rfl _ _ _) rfl ?_
   exact ⟨rfl, S, la, lc, ta, tc, .inl ⟨eb.out, rfl⟩, hU, Kp.of_below hbb, fun b hb => .inl (by simp [wbs, hb])⟩
  | true =>
   have hz := hgm rfl
   go_upto_region 4 with (go_big_may; refine store_one rfl 27 _ _ rfl (off := 3) (.slice ma M.length mc) hU.fb rfl rfl rfl rfl (by kernel_rfl) (show 3 + 1 ≤ 5 by decide) ?_; intro w5 b5 k5)
   rw [uac_ls] at b5
   have h5 := hU.setLs M k5 b5 (l2.mono (Nat.zero_le _)) hmc (fun b hb1 => Off.li l2 b (.inl (hlt b hb1)))
   have nP := h.fb.lt
   replace c2 : w5.cell? ⟨w.heap.size, 2, none⟩ = some (.int .i64 d.u) := (b0.kp1 k5 (by omega)).cell 2 _ rfl
   replace c3 : w5.cell? ⟨y, 2, none⟩ = some (.string z.t) := (y0.kp1 k5 (by omega)).cell 2 _ rfl
   have hG5 : Gd m ⟨S.wait, S.cs, S.up, M, S.t⟩ := ⟨hG.b, hG.n, hG.c, hG.t, by show M.length ≤ _; have := hLM.2; omega⟩
   go_wp2_with fail
   refine (receive_any h5 hG5 d.u z.t (hT z hz)).mono ?_
   rintro r w6 ⟨rfl, S', ta', tc', hS, h6, k6, hA⟩
   clear hU h5 hG5 hG hV c2 c3 b5
   go_wp2_with fail
   go_end0
   exact ⟨rfl, S', ma, mc, ta', tc', .inr ⟨eb.out, by rw [ez.out]; exact hS⟩, h6, ((Kp.of_below hbb).trans (k5.mono (by simp [wbs]))).trans k6, fun b hb => (hA b hb).imp id (fun h => Nat.le_trans (Nat.le_trans hbb.size k5.size) h)⟩
theorem RcS.ls {Q : Pw → Prop} {S : Cs} {who : Int} {t : ByteArray} {S' : Cs} (h : RcS Q S who t S') : S'.ls = S.ls := by
 rcases h with ⟨rfl, _⟩ | ⟨_, _, _, _, _, _, _, _, _, _, _, _, _, _, rfl⟩ <;> rfl
set_option maxHeartbeats 8000000 in
theorem stay_ok {Q : Pw → Prop} {P : Nat} {S : Cs} {g cc u uc : Nat} {la : Option Addr} {lc : Nat} {ta : Option Addr} {tc : Nat} {w : World} (h : Uc P S g cc u uc la lc ta tc w) {m : Nat} (hG : Gd m S) (d : De) (hix : -9223372036854775808 ≤ d.ix ∧ d.ix ≤ 9223372036854775807) (hT : ∀ l ∈ S.ls, Tx Q l.t) :
  Calls Tryz.prog 44 #[.pointer (some ⟨P, 0, none⟩), .agg d.arr] w fun e w' => e = .returned (.tuple #[]) ∧ Adn P (ArS Q S S d) g cc u uc (wbs P g u ta) w w' := by
 obtain ⟨q, eq⟩ : ∃ q, Hid (S.ls.length = q) := ⟨_, rfl⟩
 have hb := below_box w (.cells d.arr 45)
 have b0 := blk_new w d.arr 45
 have hln := hG.l
 have pF := fun u' hu => find_ok S.ls la lc d.who d.u d.ix hix (by omega) u' hu
 have hpk : isL d.who d.u d.ix S.ls = true → ∃ j l, (pickL d.who d.u d.ix S.ls).getD 0 = j ∧ S.ls[j]? = some l ∧ gotL d.who d.u d.ix S.ls = l := fun hi => by
  unfold isL at hi
  cases hp : pickL d.who d.u d.ix S.ls with
  | none => rw [hp] at hi; cases hi
  | some p => exact ⟨p, _, rfl, List.getElem?_eq_getElem (pickL_lt hp), by unfold gotL; rw [hp]; show S.ls.getD p Le.zero = _; rw [List.getD_eq_getElem?_getD, List.getElem?_eq_getElem (pickL_lt hp)]; rfl⟩
 obtain ⟨bo, eb⟩ : ∃ bo, Hid (isL d.who d.u d.ix S.ls = bo) := ⟨_, rfl⟩
 obtain ⟨j, ej⟩ : ∃ j, Hid ((pickL d.who d.u d.ix S.ls).getD 0 = j) := ⟨_, rfl⟩
 rw [eb.out, ej.out, eq.out] at pF
 rw [eb.out, ej.out] at hpk
 clear ej hix
 go_enter Tryz.func44, Tryz.ntmps44
 go_upto_region 1 with fail
 generalize w.alloc (Obj.cells d.arr 45) = V at hb b0 ⊢
 have hV := h.below hb
 refine wp_region_held_drew (S := fun w' => Below V.heap.size V w') (by kernel_rfl) (Below.refl _ _).drew (fun hHeld => ?_)
 refine tkQ 0 hHeld ?_
 try simp only [yy]
 refine tkQ 1 hHeld ?_
 try simp only [yy]
 refine tkQ 2 hHeld ?_
 try simp only [yy]
 refine tkQ 3 hHeld ?_
 try simp only [yy]
 refine tkH 4 (v := ?v28) rfl (by kernel_rfl) (fun _ _ _ h => h) (Or.inl ⟨by rfl, ?hy28⟩) hHeld ?_
 case hy28 => (intro w hSw; have hc : w.cell? ⟨P, 3, none⟩ = some (.slice la q lc) := (by rw [← eq.out]; exact (hV.below hSw).fb.cell 3 _ rfl); clear hSw; go_simp; try with_reducible rfl)
 try simp only [yy]
 refine tkQ 5 hHeld ?_
 try simp only [yy]
 refine tkH 6 (v := ?v30) rfl (by kernel_rfl) (fun _ _ _ h => h) (Or.inl ⟨by rfl, ?hy30⟩) hHeld ?_
 case hy30 => (intro w hSw; have hc := (b0.below hSw).cell 1 (.int .i64 d.who) rfl; clear hSw; go_simp; try with_reducible rfl)
 try simp only [yy]
 refine tkQ 7 hHeld ?_
 try simp only [yy]
 refine tkH 8 (v := ?v32) rfl (by kernel_rfl) (fun _ _ _ h => h) (Or.inl ⟨by rfl, ?hy32⟩) hHeld ?_
 case hy32 => (intro w hSw; have hc := (b0.below hSw).cell 2 (.int .i64 d.u) rfl; clear hSw; go_simp; try with_reducible rfl)
 try simp only [yy]
 refine tkQ 9 hHeld ?_
 try simp only [yy]
 refine tkH 10 (v := ?v34) rfl (by kernel_rfl) (fun _ _ _ h => h) (Or.inl ⟨by rfl, ?hy34⟩) hHeld ?_
 case hy34 => (intro w hSw; have hc := (b0.below hSw).cell 3 (.int .i64 d.ix) rfl; clear hSw; go_simp; try with_reducible rfl)
 try simp only [yy]
 refine rd1 11 (fun K hK => ?_)
 go_simp
 go_wp2_with (refine (pF _ (hV.below hHeld).fl).mono ?_; rintro r u1 ⟨rfl, hb⟩)
 refine hK.out _ _ (hHeld.below hb) (fun hHeld => ?_)
 clear hK K hb 
 refine tkQ 12 hHeld ?_
 try simp only [yy]
 refine tkQ 13 hHeld ?_
 try simp only [yy]
 refine tkQ 14 hHeld ?_
 try simp only [yy]
 refine tkQ 15 hHeld ?_
 try simp only [yy]
 refine tkQ 16 hHeld ?_
 try simp only [yy]
 refine wpAnyH_done (by kernel_rfl) ?_ _
 have hU := hV.below hHeld
 have kU : Kp (wbs P g u ta) w _ := (Kp.of_below hb).trans (Kp.of_below hHeld)
 replace b0 := b0.below hHeld
 clear hHeld pF hV hb
 cases bo with
 | false =>
  go_wp2_with fail
  go_end0
  exact ⟨rfl, S, la, lc, ta, tc, .inl ⟨eb.out, rfl⟩, hU, kU, fun b hb => .inl (by simp [wbs, hb])⟩
 | true =>
  obtain ⟨_, l, rfl, hl, hgl⟩ := hpk rfl
  replace hgl : Hid (gotL d.who d.u d.ix S.ls = l) := hgl
  have hlm := List.mem_of_getElem? hl
  obtain ⟨b, o, rfl, _, hbl, hr⟩ := hU.fl.at Le.vals_length j l hl
  have hjq : j < q := by rw [← eq.out]; exact (List.getElem?_eq_some_iff.1 hl).1
  have j0 : (j : Int) < (q : Int) := by omega
  have j1 : (0 : Int) ≤ (j : Int) := by omega
  clear hpk hr
  go_upto_region 3 with fail
  replace hU := hU.below (Below.refl _ _).drew
  replace kU := kU.trans (Kp.drew _ _)
  have c3 := hU.fb.cell 3 (.slice (some ⟨b, o, none⟩) S.ls.length lc) rfl
  rw [eq.out] at c3
  have c4 := hU.fl.rng Le.vals_length j l hl 2 (.string l.t) rfl
  refine wp_region_held_drew (S := fun w' => w'.cell? ⟨P, 3, none⟩ = some (.slice (some ⟨b, o, none⟩) q lc) ∧ w'.cell? ⟨b, o + j * 4 + 2, none⟩ = some (.string l.t) ∧ Blk w.heap.size d.arr 45 w') (by kernel_rfl) ⟨c3, c4, b0.drew⟩ (fun hHeld => ?_)
  refine tkQ 0 hHeld ?_
  try simp only [yy]
  refine tkQ 1 hHeld ?_
  try simp only [yy]
  refine tkH 2 (v := ?v42) rfl (by kernel_rfl) (fun _ _ _ h => h) (Or.inl ⟨by rfl, ?hy42⟩) hHeld ?_
  case hy42 => (intro w hSw; have hc := hSw.2.2.cell 2 (.int .i64 d.u) rfl; clear hSw; go_simp; try with_reducible rfl)
  try simp only [yy]
  refine tkQ 3 hHeld ?_
  try simp only [yy]
  refine tkQ 4 hHeld ?_
  try simp only [yy]
  refine tkQ 5 hHeld ?_
  try simp only [yy]
  refine tkQ 6 hHeld ?_
  try simp only [yy]
  refine tkH 7 (v := ?v47) rfl (by kernel_rfl) (fun _ _ _ h => h) (Or.inl ⟨by rfl, ?hy47⟩) hHeld ?_
  case hy47 => (intro w hSw; have hc := hSw.1; clear hSw; go_simp; try with_reducible rfl)
  try simp only [yy]
  refine tkQ 8 hHeld ?_
  try simp only [yy]
  refine tkQ 9 hHeld ?_
  try simp only [yy]
  refine tkQ 10 hHeld ?_
  try simp only [yy]
  refine tkH 11 (v := ?v51) rfl (by kernel_rfl) (fun _ _ _ h => h) (Or.inl ⟨by rfl, ?hy51⟩) hHeld ?_
  case hy51 => (intro w hSw; have hc := hSw.2.1; clear hSw; go_simp; try with_reducible rfl)
  try simp only [yy]
  refine rd1 12 (fun K hK => ?_)
  go_simp
  go_wp2_with (refine (receive_any hU hG d.u l.t (hT l hlm)).mono ?_; rintro r u1 ⟨rfl, S9, te, tf, hS, h6, k6, hA⟩)
  have e9 := RcS.ls hS
  refine hK.out _ _ ⟨by rw [← eq.out, ← e9]; exact h6.fb.cell 3 _ rfl, h6.fl.rng Le.vals_length j l (by rw [e9]; exact hl) 2 _ rfl, hHeld.2.2.kp k6 (fun hm => Nat.lt_irrefl _ (h.lt _ hm))⟩ (fun hHeld => ?_)
  clear hK K 
  refine wpAnyH_done (by kernel_rfl) ?_ _
  clear hU hG
  go_wp2_with fail
  go_end0
  exact ⟨rfl, S9, some ⟨b, o, none⟩, lc, te, tf, .inr ⟨eb.out, by rw [hgl.out]; exact hS⟩, h6, kU.trans k6, fun b hb => (hA b hb).imp id (fun h => Nat.le_trans kU.size h)⟩
end Go.Proofs.YthgfpdidilolgaaGreat
namespace Go.Proofs.YthgfpdidilolgaaGreat
set_option maxRecDepth 10000
set_option linter.unusedSimpArgs false
open Go.RowKit Go.Sort
set_option linter.unusedVariables false
def upS (S : Cs) (who : Int) : Cs :=
 if isD S.cs.length who = true ∧ S.up.getD who.toNat false = false then
  match S.cs[who.toNat]? with
  | none => S
  | some x => if startB who ((x.1.own + 1) % 4294967296) S.wait = true then ⟨S.wait, S.cs.set who.toNat (startC who ((x.1.own + 1) % 4294967296) S.wait, []), S.up.set who.toNat true, S.ls, S.t⟩ else S
 else S
set_option maxHeartbeats 4000000 in
theorem up_ok {P : Nat} {S : Cs} {g cc u uc : Nat} {la : Option Addr} {lc : Nat} {ta : Option Addr} {tc : Nat} {w : World} (h : Uc P S g cc u uc la lc ta tc w) (hn : S.up.length = S.cs.length) (ho : ∀ x ∈ S.cs, x.1.own < 4294967296) (who : Int) :
  Calls Tryz.prog 48 #[.pointer (some ⟨P, 0, none⟩), .int .i64 who] w fun e w' => e = .returned (.tuple #[]) ∧ Uc P (upS S who) g cc u uc la lc ta tc w' ∧ Kp (wbs P g u ta) w w' := by
 have p := isD_ok h hn who
 unfold upS
 cases hd : isD S.cs.length who with
 | false =>
  rw [hd] at p
  rw [if_neg (by simp)]
  go_enter Tryz.func48, Tryz.ntmps48
  go_wp2_with fail
  refine p.mono ?_
  rintro r w1 ⟨rfl, hb⟩
  clear p hd
  go_wp2_with fail
  (try simp only [Exit.inBlock, Exit.then])
  refine bodyPost_ret (results_none rfl _ _ _) rfl ?_
  exact ⟨rfl, h.below hb, Kp.of_below hb⟩
 | true =>
  rw [hd] at p
  unfold isD at hd
  rw [decide_eq_true_eq] at hd
  obtain ⟨i, rfl⟩ : ∃ i : Nat, who = (i : Int) := ⟨who.toNat, by omega⟩
  have hi : i < S.up.length := by omega
  have hi' : i < S.cs.length := by omega
  obtain ⟨b, hb0⟩ : ∃ b, S.up[i]? = some b := ⟨_, List.getElem?_eq_getElem hi⟩
  obtain ⟨x, hx⟩ : ∃ x, S.cs[i]? = some x := ⟨_, List.getElem?_eq_getElem hi'⟩
  have hox := ho x (List.mem_of_getElem? hx)
  rw [Int.toNat_natCast, List.getD_eq_getElem?_getD, hb0, hx]
  simp only [Option.getD_some, true_and]
  obtain ⟨n, en⟩ : ∃ n, Hid (S.cs.length = n) := ⟨_, rfl⟩
  obtain ⟨o, eo⟩ : ∃ o, Hid (x.1.own = o) := ⟨_, rfl⟩
  obtain ⟨wt, ew⟩ : ∃ wt, Hid (S.wait = wt) := ⟨_, rfl⟩
  obtain ⟨q, eq⟩ : ∃ q, Hid ((o + 1) % 4294967296 = q) := ⟨_, rfl⟩
  have hin : i < n := by rw [← en.out]; exact hi'
  have hw1 : IntKind.u32.wrap ((o : Int) + 1) = (q : Int) := by
   rw [IntKind.wrap_u32, ← eq.out]
   rw [eo.out] at hox
   omega
  rw [eo.out, eq.out, ew.out]
  clear hox ho
  cases b with
  | true =>
   rw [if_neg (by simp)]
   go_enter Tryz.func48, Tryz.ntmps48
   go_wp2_with fail
   refine p.mono ?_
   rintro r w1 ⟨rfl, hb⟩
   have h1 := h.below hb
   have c2 : w1.cell? ⟨P, 2, none⟩ = some (.slice (some ⟨u, 0, none⟩) n uc) := by rw [← en.out, ← hn]; exact h1.fb.cell 2 _ rfl
   have c3 : w1.cell? ⟨u, i, none⟩ = some (.bool true) := by
    have := h1.fu.at bvl_length i true hb0 0 _ rfl
    rw [Nat.mul_one, Nat.add_zero] at this
    exact this
   clear p hd hw1 hi hi'
   go_wp2_with fail
   (try simp only [Exit.inBlock, Exit.then])
   refine bodyPost_ret (results_none rfl _ _ _) rfl ?_
   exact ⟨rfl, h1, Kp.of_below hb⟩
  | false =>
   rw [if_pos rfl]
   obtain ⟨Z, hZ⟩ : ∃ Z, Hid (startC (i : Int) q wt = Z) := ⟨_, rfl⟩
   rw [hZ.out]
   have pS := start_ok (i : Int) q wt
   rw [hZ.out] at pS
   obtain ⟨sb, hsb⟩ : ∃ sb, Hid (startB (i : Int) q wt = sb) := ⟨_, rfl⟩
   rw [hsb.out] at pS ⊢
   obtain ⟨X, hX⟩ : ∃ X, Hid ((if sb = true then (⟨S.wait, S.cs.set i (Z, []), S.up.set i true, S.ls, S.t⟩ : Cs) else S) = X) := ⟨_, rfl⟩
   rw [← ew.out] at hZ
   rw [← ew.out, hX.out]
   rw [ew.out] at hZ
   clear hsb
   go_enter Tryz.func48, Tryz.ntmps48
   go_wp2_with fail
   refine p.mono ?_
   rintro r w1 ⟨rfl, hb⟩
   have h1 := h.below hb
   have c2 : w1.cell? ⟨P, 2, none⟩ = some (.slice (some ⟨u, 0, none⟩) n uc) := by rw [← en.out, ← hn]; exact h1.fb.cell 2 _ rfl
   have c3 : w1.cell? ⟨u, i, none⟩ = some (.bool false) := by
    have := h1.fu.at bvl_length i false hb0 0 _ rfl
    rw [Nat.mul_one, Nat.add_zero] at this
    exact this
   clear p hd hi hi'
   go_upto_region 1 with fail
   clear c2 c3 h
   have hV := h1
   clear h1
   have hbV : Below w.heap.size w w1 := hb
   clear hb
   generalize w1 = V at *
   go_cut [4, 5] from 20 to 39 (fun pv bv wx => bv = .bool sb ∧ ∃ y, pv = .pointer (some ⟨y, 0, none⟩) ∧ V.heap.size ≤ y ∧ Blk y (coc Z) 78 wx ∧ Below V.heap.size V wx)
   case first =>
    refine wp_region_held_drew (S := fun w' => Below V.heap.size V w') (by kernel_rfl) (Below.refl _ _).drew (fun hHeld => ?_)
    refine tkQ 0 hHeld ?_
    try simp only [yy]
    refine tkQ 1 hHeld ?_
    try simp only [yy]
    refine tkQ 2 hHeld ?_
    try simp only [yy]
    refine tkQ 3 hHeld ?_
    try simp only [yy]
    refine tkQ 4 hHeld ?_
    try simp only [yy]
    refine tkH 5 (v := ?v6) rfl (by kernel_rfl) (fun _ _ _ h => h) (Or.inl ⟨by rfl, ?hy6⟩) hHeld ?_
    case hy6 => (intro w hSw; have hc : w.cell? ⟨P, 1, none⟩ = some (.slice (some ⟨g, 0, none⟩) n cc) := (by rw [← en.out]; exact (hV.below hSw).fb.cell 1 _ rfl); clear hSw; go_simp; try with_reducible rfl)
    try simp only [yy]
    refine tkQ 6 hHeld ?_
    try simp only [yy]
    refine tkQ 7 hHeld ?_
    try simp only [yy]
    refine tkQ 8 hHeld ?_
    try simp only [yy]
    refine tkH 9 (v := ?v10) rfl (by kernel_rfl) (fun _ _ _ h => h) (Or.inl ⟨by rfl, ?hy10⟩) hHeld ?_
    case hy10 => (intro w hSw; have hc : w.cell? ⟨g, i * 189 + 2, none⟩ = some (.int .u32 (o : Int)) := (by rw [← eo.out]; exact (hV.below hSw).fc.at cov_length i x hx 2 _ rfl); clear hSw; go_simp; try with_reducible rfl)
    try simp only [yy]
    refine tkQ 10 hHeld ?_
    try simp only [yy]
    refine tkQ 11 hHeld ?_
    try simp only [yy]
    refine tkQ 12 hHeld ?_
    try simp only [yy]
    refine tkQ 13 hHeld ?_
    try simp only [yy]
    refine tkQ 14 hHeld ?_
    try simp only [yy]
    refine tkH 15 (v := ?v16) rfl (by kernel_rfl) (fun _ _ _ h => h) (Or.inl ⟨by rfl, ?hy16⟩) hHeld ?_
    case hy16 => (intro w hSw; have hc : w.cell? ⟨P, 0, none⟩ = some (.int .i64 wt) := (by rw [← ew.out]; exact (hV.below hSw).fb.cell 0 _ rfl); clear hSw; go_simp; try with_reducible rfl)
    try simp only [yy]
    refine wpAnyH_ready (rs := [16, 20]) (by kernel_rfl) (by simp) ?_
    refine AllReadyH.cons rfl (fun K hK => ?_) (AllReadyH.cons rfl (fun K hK => ?_) (AllReadyH.nil))
    ·have hcz := hHeld.size
     go_simp
     go_wp2_with (refine (pS _).mono ?_; rintro r u1 ⟨rfl, hb⟩)
     refine hK.out _ _ (hHeld.below hb) (fun hHeld => ?_)
     clear hK K hb
     refine tkQ 17 hHeld ?_
     try simp only [yy]
     refine tkQ 18 hHeld ?_
     try simp only [yy]
     refine tkQ 19 hHeld ?_
     try simp only [yy]
     refine rd1 20 (fun K hK => ?_)
     rw [if_pos (by rfl)]
     refine wp_alloc_any zeroCo rfl ?_
     intro yp u2 y0 hb yl yt
     have yg := Nat.le_trans hHeld.size yl
     refine hK.out _ _ (hHeld.below hb) (fun hHeld => ?_)
     clear hK K hb yl yt
     try simp only [yy]
     refine rd1 21 (fun K hK => ?_)
     rw [if_pos (by rfl)]
     refine wp_store_all 78 _ _ rfl (cells := (coc Z)) y0 rfl rfl sizeCo rfl (coc_one _) ?_
     intro u3 hn9 hk9
     replace y0 := hn9
     refine hK.out _ _ (below_kp hHeld hk9 yg) (fun hHeld => ?_)
     clear hK K hk9 hn9
     try simp only [yy]
     refine tkQ 22 hHeld ?_
     try simp only [yy]
     refine wpAnyH_done (by kernel_rfl) ?_ _
     go_wp2_with fail
     go_meet
     exact ⟨rfl, yp, rfl, yg, y0, hHeld⟩
    ·rw [if_pos (by rfl)]
     refine wp_alloc_any zeroCo rfl ?_
     intro yp u4 y0 hb yl yt
     have yg := Nat.le_trans hHeld.size yl
     refine hK.out _ _ (hHeld.below hb) (fun hHeld => ?_)
     clear hK K hb yl
     try simp only [yy]
     refine rd1 16 (fun K hK => ?_)
     have hcz := hHeld.size
     go_simp
     go_wp2_with (refine (pS _).mono ?_; rintro r u5 ⟨rfl, hb⟩)
     replace y0 := y0.below hb
     refine hK.out _ _ (hHeld.below hb) (fun hHeld => ?_)
     clear hK K hb
     refine tkQ 17 hHeld ?_
     try simp only [yy]
     refine tkQ 18 hHeld ?_
     try simp only [yy]
     refine tkQ 19 hHeld ?_
     try simp only [yy]
     refine rd1 21 (fun K hK => ?_)
     rw [if_pos (by rfl)]
     refine wp_store_all 78 _ _ rfl (cells := (coc Z)) y0 rfl rfl sizeCo rfl (coc_one _) ?_
     intro u6 hn9 hk9
     replace y0 := hn9
     refine hK.out _ _ (below_kp hHeld hk9 yg) (fun hHeld => ?_)
     clear hK K hk9 hn9
     try simp only [yy]
     refine tkQ 22 hHeld ?_
     try simp only [yy]
     refine wpAnyH_done (by kernel_rfl) ?_ _
     go_wp2_with fail
     go_meet
     exact ⟨rfl, yp, rfl, yg, y0, hHeld⟩
   case rest =>
    obtain ⟨rfl, y, rfl, yg, y0, hb⟩ := hcut
    rename World => w2
    have hU := hV.below hb
    have kU : Kp (wbs P g u ta) w w2 := (Kp.of_below hbV).trans (Kp.of_below hb)
    have hlt := hV.lt
    clear hV hbV hb
    cases sb with
    | false =>
     have e : X = S := hX.out.symm
     subst e
     go_wp2_with fail
     go_end0
     exact ⟨rfl, hU, kU⟩
    | true =>
     have e : X = ⟨S.wait, S.cs.set i (Z, []), S.up.set i true, S.ls, S.t⟩ := hX.out.symm
     subst e
     clear hX
     have hZn : Z.kn = 0 := by
      rw [← hZ.out]
      unfold startC
      split <;> rfl
     have hyP : y ≠ P := fun e => by have := hlt P (by simp [wbs]); omega
     have hyg : y ≠ g := fun e => by have := hlt g (by simp [wbs]); omega
     have hyu : y ≠ u := fun e => by have := hlt u (by simp [wbs]); omega
     have hb0P : Blk P (uac wt (.slice (some ⟨g, 0, none⟩) n cc) (.slice (some ⟨u, 0, none⟩) n uc) (.slice la S.ls.length lc) (.slice ta S.t.length tc)) 86 w2 := by
      have := hU.fb
      rw [hn, en.out, ew.out] at this
      exact this
     have hi : i < S.up.length := by rw [hn, en.out]; exact hin
     have hi' : i < S.cs.length := by rw [en.out]; exact hin
     obtain ⟨Cg, hCg, _⟩ := hU.fc
     obtain ⟨Cu, hCu, _⟩ := hU.fu
     have hzg := hU.fc.size1 hCg i hi'
     have hzu := hU.fu.size1 hCu i hi
     rw [Nat.mul_one] at hzu
     clear hlt hZ hb0 hx
     go_upto_region 3 with fail
     replace hU := hU.below (Below.refl _ _).drew
     replace kU := kU.trans (Kp.drew _ _)
     replace hCg := hCg.drew
     replace hCu := hCu.drew
     refine wp_region_held_drew (S := fun w' => Blk P (uac wt (.slice (some ⟨g, 0, none⟩) n cc) (.slice (some ⟨u, 0, none⟩) n uc) (.slice la S.ls.length lc) (.slice ta S.t.length tc)) 86 w' ∧ Blk y (coc Z) 78 w') (by kernel_rfl) ⟨hb0P.drew, y0.drew⟩ (fun hHeld => ?_)
     refine tkQ 0 hHeld ?_
     try simp only [yy]
     refine tkQ 1 hHeld ?_
     try simp only [yy]
     refine tkQ 2 hHeld ?_
     try simp only [yy]
     refine tkQ 3 hHeld ?_
     try simp only [yy]
     refine tkH 4 (v := ?v29) rfl (by kernel_rfl) (fun _ _ _ h => h) (Or.inl ⟨by rfl, ?hy29⟩) hHeld ?_
     case hy29 => (intro w hSw; have hc : w.cell? ⟨P, 1, none⟩ = some (.slice (some ⟨g, 0, none⟩) n cc) := hSw.1.cell 1 _ rfl; clear hSw; go_simp; try with_reducible rfl)
     try simp only [yy]
     refine tkQ 5 hHeld ?_
     try simp only [yy]
     refine tkQ 6 hHeld ?_
     try simp only [yy]
     refine tkQ 7 hHeld ?_
     try simp only [yy]
     refine tkQ 8 hHeld ?_
     try simp only [yy]
     refine tkQ 9 hHeld ?_
     try simp only [yy]
     refine tkH 10 (v := ?v35) rfl (by kernel_rfl) (fun _ _ _ h => h) (Or.inl ⟨by rfl, ?hy35⟩) hHeld ?_
     case hy35 => (intro w hSw; have hc : w.cell? ⟨P, 2, none⟩ = some (.slice (some ⟨u, 0, none⟩) n uc) := hSw.1.cell 2 _ rfl; clear hSw; go_simp; try with_reducible rfl)
     try simp only [yy]
     refine tkQ 11 hHeld ?_
     try simp only [yy]
     refine' tkH 12 (v := _) rfl (by kernel_rfl) (fun _ _ _ h => h) (yieldsIf_load_mid (by rfl) _ _ rfl y 0 rfl (col Z) _ ?hS37 Tryz.underlying78 rfl sizeCo) hHeld ?_
     case hS37 => exact fun w h => h.2.whole
     try simp only [yy]
     refine tkQ 13 hHeld ?_
     try simp only [yy]
     refine rd1 14 (fun K hK => ?_)
     rw [if_pos (by rfl)]
     refine wp_store_part 78 _ _ rfl (off := i * 189) (cells := coc Z) hCg rfl rfl sizeCo hzg (coc_one _) ?_
     intro u1 hn9 hk9
     replace hU := hU.setCore i Z [] hk9 (hU.fc.put cov_length (by decide) i hi' (Z, []) hCg hn9) hZn (.inl rfl) (fun b _ => .inl rfl)
     replace kU := kU.trans (hk9.mono (by simp [wbs]))
     replace hCu := hCu.kp1 hk9 (fun e => hU.n1.2.2 e.symm)
     refine hK.out _ _ ⟨hHeld.1.kp1 hk9 hU.n1.1, hHeld.2.kp1 hk9 hyg⟩ (fun hHeld => ?_)
     clear hK K hk9 hn9 hCg
     try simp only [yy]
     refine tkQ 15 hHeld ?_
     try simp only [yy]
     refine rd1 16 (fun K hK => ?_)
     rw [if_pos (by rfl)]
     refine wp_store_one 4 _ _ rfl (off := i) (.bool true) hCu rfl rfl rfl rfl (by kernel_rfl) hzu ?_
     intro u2 hn9 hk9
     rw [← bvl_put] at hn9
     replace hU := hU.setUp i true hk9 (hU.fu.put bvl_length (by decide) i hi true hCu hn9)
     replace kU := kU.trans (hk9.mono (by simp [wbs]))
     refine hK.out _ _ ⟨hHeld.1.kp1 hk9 hU.n1.2.1, hHeld.2.kp1 hk9 hyu⟩ (fun hHeld => ?_)
     clear hK K hk9 hn9 hCu
     try simp only [yy]
     refine wpAnyH_done (by kernel_rfl) ?_ _
     go_wp2_with fail
     go_end0
     exact ⟨rfl, hU, kU⟩
end Go.Proofs.YthgfpdidilolgaaGreat
