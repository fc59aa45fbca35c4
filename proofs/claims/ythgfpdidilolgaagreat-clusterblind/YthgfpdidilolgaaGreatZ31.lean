/-
  Of the texts beneath these laws, in their order: ClO, ClP.
  Each theorem says its own conditions.
-/
import Derived.Test.YthgfpdidilolgaaGreatZ30
import Derived.Test.YthgfpdidilolgaaGreatZ01
namespace Go.Proofs.YthgfpdidilolgaaGreat
set_option maxRecDepth 10000
set_option linter.unusedSimpArgs false
open Go.RowKit Go.Sort
set_option linter.unusedVariables false
def Nxt (Q : Pw → Prop) (S : Cs) (d : De) (S' : Cs) : Prop :=
 (d.d = 0 ∧ ((isUpB S d.who = false ∧ S' = S) ∨ ∃ (i : Nat) (x : Co × List Kt) (a : Option Addr) (k : Nat) (s : Sg), isUpB S d.who = true ∧ d.who = (i : Int) ∧ S.cs[i]? = some x ∧ s = tickS x.1 x.2 (if frOk d.f = true then d.f else noFr) ∧ S' = wriS (becS S i (s.c.kp a s.L.length k) s.L x.1.conf s.t) i (packW s.c s.L))) ∨
 (d.d = 1 ∧ ArS Q ⟨S.wait, S.cs, S.up, leftL d.who d.u d.ix S.ls, S.t⟩ S d S') ∨
 (d.d = 2 ∧ ArS Q S S d S') ∨
 (d.d = 3 ∧ S' = ⟨S.wait, S.cs, S.up, leftL d.who d.u d.ix S.ls, S.t⟩) ∨ (d.d = 4 ∧ S' = ⟨S.wait, S.cs, S.up, trnL d.who d.u d.ix d.at_ d.m S.ls, S.t⟩) ∨ (d.d = 5 ∧ S' = crashS S d.who) ∨ (d.d = 6 ∧ S' = upS S d.who) ∨ (¬ (0 ≤ d.d ∧ d.d ≤ 6) ∧ S' = S)
def NxtW (Q : Pw → Prop) (S : Cs) (d : De) (S' : Cs) : Prop :=
 (S' = S ∧ ¬ (d.d = 0 ∧ isUpB S d.who = true)) ∨
 (∃ (i : Nat) (x : Co × List Kt) (a : Option Addr) (k : Nat) (s : Sg), d.d = 0 ∧ d.who = (i : Int) ∧ S.cs[i]? = some x ∧ s = tickS x.1 x.2 (if frOk d.f = true then d.f else noFr) ∧ S' = wriS (becS S i (s.c.kp a s.L.length k) s.L x.1.conf s.t) i (packW s.c s.L)) ∨
 (∃ (ls : List Le) (l : Le) (who : Int), d.d ≠ 0 ∧ l ∈ S.ls ∧ (∀ y ∈ ls, y ∈ S.ls) ∧ ls.length ≤ S.ls.length ∧ RcS Q ⟨S.wait, S.cs, S.up, ls, S.t⟩ who l.t S') ∨
 (∃ ls : List Le, d.d ≠ 0 ∧ (∀ y ∈ ls, y ∈ S.ls) ∧ ls.length ≤ S.ls.length ∧ S' = ⟨S.wait, S.cs, S.up, ls, S.t⟩) ∨
 (d.d ≠ 0 ∧ S' = ⟨S.wait, S.cs, S.up, trnL d.who d.u d.ix d.at_ d.m S.ls, S.t⟩) ∨ (d.d ≠ 0 ∧ S' = crashS S d.who) ∨ (d.d ≠ 0 ∧ S' = upS S d.who)
theorem Nxt.weak {Q : Pw → Prop} {S : Cs} {d : De} {S' : Cs} (h : Nxt Q S d S') : NxtW Q S d S' := by
 rcases h with ⟨h0, h | ⟨i, x, a, k, s, hu, hi, hx, hs, e⟩⟩ | ⟨h0, h | ⟨h1, h⟩⟩ | ⟨h0, h | ⟨h1, h⟩⟩ | ⟨h0, e⟩ | ⟨h0, e⟩ | ⟨h0, e⟩ | ⟨h0, e⟩ | ⟨h0, e⟩
 ·exact .inl ⟨h.2, fun q => by rw [h.1] at q; cases q.2⟩
 ·exact .inr (.inl ⟨i, x, a, k, s, h0, hi, hx, hs, e⟩)
 ·exact .inl ⟨h.2, fun q => by omega⟩
 ·exact .inr (.inr (.inl ⟨_, _, d.u, by omega, got_mem h1, left_mem.1, left_mem.2, h⟩))
 ·exact .inl ⟨h.2, fun q => by omega⟩
 ·exact .inr (.inr (.inl ⟨S.ls, _, d.u, by omega, got_mem h1, fun _ h => h, Nat.le_refl _, h⟩))
 ·exact .inr (.inr (.inr (.inl ⟨_, by omega, left_mem.1, left_mem.2, e⟩)))
 ·exact .inr (.inr (.inr (.inr (.inl ⟨by omega, e⟩))))
 ·exact .inr (.inr (.inr (.inr (.inr (.inl ⟨by omega, e⟩)))))
 ·exact .inr (.inr (.inr (.inr (.inr (.inr ⟨by omega, e⟩)))))
 ·exact .inl ⟨e, fun q => by omega⟩
def MdL (M : List Le) (B : Nat) (e : Ending) (w' : World) : Prop := ∃ a c, e = .returned (.slice a M.length c) ∧ Li Le.vals B a M w' ∧ (M.length ≤ c ∧ c ≤ 9223372036854775807)
set_option maxHeartbeats 16000000 in
theorem do_ok {Q : Pw → Prop} {P : Nat} {S : Cs} {g cc u uc : Nat} {la : Option Addr} {lc : Nat} {ta : Option Addr} {tc : Nat} {w : World} (h : Uc P S g cc u uc la lc ta tc w) {m : Nat} (hG : Gd m S) (hm4 : m + 4 ≤ 1000000) (d : De) (hix : -9223372036854775808 ≤ d.ix ∧ d.ix ≤ 9223372036854775807) (hat : d.at_ ≤ 9223372036854775807) (hmk : d.m < 4294967296) (hT : ∀ l ∈ S.ls, Tx Q l.t) (hs : ∀ l ∈ S.ls, l.small) :
  Calls Tryz.prog 30 #[.pointer (some ⟨P, 0, none⟩), .agg d.arr] w fun e w' => e = .returned (.tuple #[]) ∧ Adn P (Nxt Q S d) g cc u uc (wbs P g u ta) w w' := by
 obtain ⟨q, eq⟩ : ∃ q, Hid (S.ls.length = q) := ⟨_, rfl⟩
 have hln := hG.l
 have hLM := left_mem (f := d.who) (u := d.u) (ix := d.ix) (L := S.ls)
 have pT : ∀ u', Li Le.vals 0 la S.ls u' → Calls Tryz.prog 45 #[.slice la S.ls.length lc, .int .i64 d.who, .int .i64 d.u, .int .i64 d.ix] u' fun e w' => TkL (leftL d.who d.u d.ix S.ls) (gotL d.who d.u d.ix S.ls) (isL d.who d.u d.ix S.ls) u'.heap.size e w' ∧ Below u'.heap.size u' w' := fun u' hu => (ltake_ok S.ls la lc d.who d.u d.ix hix (by omega) h.flc.1 h.flc.2 u' hu).mono fun e w' he => by
  obtain ⟨⟨a, c, e1, e2⟩, e3⟩ := he
  exact ⟨⟨a, c, e1, e2.li, e2.cap, e2.mx⟩, e3⟩
 have pU : ∀ u', Li Le.vals 0 la S.ls u' → Calls Tryz.prog 46 #[.slice la S.ls.length lc, .int .i64 d.who, .int .i64 d.u, .int .i64 d.ix, .int .i64 d.at_, .int .u32 (d.m : Int)] u' fun e w' => MdL (trnL d.who d.u d.ix d.at_ d.m S.ls) u'.heap.size e w' ∧ Below u'.heap.size u' w' := fun u' hu => (turn_ok S.ls la lc d.who d.u d.ix d.at_ d.m hix hat hmk (by omega) hs u' hu).mono fun e w' he => by
  obtain ⟨⟨a, c, e1, e2⟩, e3⟩ := he
  exact ⟨⟨a, c, e1, e2.li, e2.cap, e2.mx⟩, e3⟩
 obtain ⟨M, eM⟩ : ∃ M, Hid (leftL d.who d.u d.ix S.ls = M) := ⟨_, rfl⟩
 obtain ⟨N, eN⟩ : ∃ N, Hid (trnL d.who d.u d.ix d.at_ d.m S.ls = N) := ⟨_, rfl⟩
 obtain ⟨dd, edd⟩ : ∃ dd, Hid (d.d = dd) := ⟨_, rfl⟩
 rw [eM.out, eq.out] at pT
 rw [eN.out, eq.out] at pU
 rw [eM.out] at hLM
 have hB := below_box w (.cells d.arr 45)
 have b0 := blk_new w d.arr 45
 go_enter Tryz.func30, Tryz.ntmps30
 go_upto_region 1 with fail
 generalize w.alloc (Obj.cells d.arr 45) = V at hB b0 ⊢
 have hU := h.below hB
 have kU : Kp (wbs P g u ta) w V := Kp.of_below hB
 have c0 : V.cell? ⟨w.heap.size, 0, none⟩ = some (.int .i64 dd) := by rw [← edd.out]; exact b0.cell 0 _ rfl
 have c1 : V.cell? ⟨w.heap.size, 1, none⟩ = some (.int .i64 d.who) := b0.cell 1 _ rfl
 by_cases e0 : dd = 0
 ·subst e0
  cases hu : isUpB S d.who with
  | false =>
   go_wp2_with (first | refine load_part rfl 43 _ rfl (o := 6) b0 rfl (frv d.f) d.p_frame Tryz.underlying43 rfl sizeFr ?_)
   refine (utick_down hU hG d.who d.f hu).mono ?_
   rintro r w2 ⟨rfl, hb⟩
   go_wp2_with fail
   go_end0
   exact ⟨rfl, S, la, lc, ta, tc, .inl ⟨by rw [edd.out], .inl ⟨hu, rfl⟩⟩, hU.below hb, kU.trans (Kp.of_below hb), fun b hb => .inl (by simp [wbs, hb])⟩
  | true =>
   have hd := hu
   unfold isUpB isD at hd
   rw [Bool.and_eq_true, decide_eq_true_eq] at hd
   obtain ⟨i, ei⟩ : ∃ i : Nat, d.who = (i : Int) := ⟨d.who.toNat, by omega⟩
   obtain ⟨x, hx⟩ : ∃ x, S.cs[i]? = some x := ⟨_, List.getElem?_eq_getElem (by omega)⟩
   clear hd
   rw [ei] at c1 hu
   go_wp2_with (first | refine load_part rfl 43 _ rfl (o := 6) b0 rfl (frv d.f) d.p_frame Tryz.underlying43 rfl sizeFr ?_)
   refine (utick_ok hU hG hm4 i d.f hu x hx).mono ?_
   rintro r w2 ⟨rfl, a, k, la', lc', ta', tc', h2, k2, hA⟩
   clear hU
   go_wp2_with fail
   go_end0
   exact ⟨rfl, _, la', lc', ta', tc', .inl ⟨edd.out, .inr ⟨i, x, a, k, _, by rw [ei]; exact hu, ei, hx, rfl, rfl⟩⟩, h2, kU.trans k2, fun b hb => (hA b hb).imp id (fun h => Nat.le_trans hB.size h)⟩
 have f0 : (dd == 0) = false := by simp [e0]
 by_cases e1 : dd = 1
 ·subst e1
  go_wp2_with (refine load_blk rfl 45 _ rfl b0 rfl Tryz.underlying45 rfl sizeDe ?_)
  refine (arrive_ok hU hG d hix hT).mono ?_
  rintro r w2 ⟨rfl, S', la', lc', ta', tc', hQ, h2, k2, hA⟩
  clear hU
  go_wp2_with fail
  go_end0
  refine ⟨rfl, S', la', lc', ta', tc', ?_, h2, kU.trans k2, fun b hb => (hA b hb).imp id (fun h => Nat.le_trans hB.size h)⟩
  exact .inr (.inl ⟨by rw [edd.out], hQ⟩)
 have f1 : (dd == 1) = false := by simp [e1]
 by_cases e2 : dd = 2
 ·subst e2
  go_wp2_with (refine load_blk rfl 45 _ rfl b0 rfl Tryz.underlying45 rfl sizeDe ?_)
  refine (stay_ok hU hG d hix hT).mono ?_
  rintro r w2 ⟨rfl, S', la', lc', ta', tc', hQ, h2, k2, hA⟩
  clear hU
  go_wp2_with fail
  go_end0
  refine ⟨rfl, S', la', lc', ta', tc', ?_, h2, kU.trans k2, fun b hb => (hA b hb).imp id (fun h => Nat.le_trans hB.size h)⟩
  exact .inr (.inr (.inl ⟨by rw [edd.out], hQ⟩))
 have f2 : (dd == 2) = false := by simp [e2]
 by_cases e3 : dd = 3
 ·subst e3
  go_upto_region 9 with fail
  replace hU := hU.below (Below.refl _ _).drew
  replace kU := kU.trans (Kp.drew _ _)
  refine wp_region_held_drew (S := fun w' => Blk w.heap.size d.arr 45 w') (by kernel_rfl) b0.drew (fun hHeld => ?_)
  refine tkQ 0 hHeld ?_
  try simp only [yy]
  refine tkQ 1 hHeld ?_
  try simp only [yy]
  refine tkQ 2 hHeld ?_
  try simp only [yy]
  refine tkQ 3 hHeld ?_
  try simp only [yy]
  refine tkQ 4 hHeld ?_
  try simp only [yy]
  refine tkQ 6 hHeld ?_
  try simp only [yy]
  refine tkH 7 (v := ?v7) rfl (by kernel_rfl) (fun _ _ _ h => h) (Or.inl ⟨by rfl, ?hy7⟩) hHeld ?_
  case hy7 => (intro w hSw; have hc := hSw.cell 1 (.int .i64 d.who) rfl; clear hSw; go_simp; try with_reducible rfl)
  try simp only [yy]
  refine tkQ 8 hHeld ?_
  try simp only [yy]
  refine tkH 9 (v := ?v9) rfl (by kernel_rfl) (fun _ _ _ h => h) (Or.inl ⟨by rfl, ?hy9⟩) hHeld ?_
  case hy9 => (intro w hSw; have hc := hSw.cell 2 (.int .i64 d.u) rfl; clear hSw; go_simp; try with_reducible rfl)
  try simp only [yy]
  refine tkQ 10 hHeld ?_
  try simp only [yy]
  refine tkH 11 (v := ?v11) rfl (by kernel_rfl) (fun _ _ _ h => h) (Or.inl ⟨by rfl, ?hy11⟩) hHeld ?_
  case hy11 => (intro w hSw; have hc := hSw.cell 3 (.int .i64 d.ix) rfl; clear hSw; go_simp; try with_reducible rfl)
  try simp only [yy]
  refine rd1 5 (fun K hK => ?_)
  rw [if_pos (by rfl)]
  refine wp_load_cell 27 _ rfl (.slice la q lc) rfl (show _ = some (Value.slice la q lc) from (by rw [← eq.out]; exact hU.fb.cell 3 _ rfl)) Tryz.underlying27 rfl ?_
  refine hK.out _ _ hHeld (fun hHeld => ?_)
  clear hK K 
  try simp only [yy]
  refine rd1 12 (fun K hK => ?_)
  go_simp
  go_wp2_with (refine (pT _ hU.fl).mono ?_; rintro r u2 ⟨⟨ma, mc, rfl, l2, hmc⟩, hb⟩)
  have hlt : ∀ b ∈ wbs P g u ta, b < _ := hU.lt
  replace hU := hU.below hb
  replace kU := kU.trans (Kp.of_below hb)
  refine hK.out _ _ (hHeld.below hb) (fun hHeld => ?_)
  clear hK K hb
  refine tkQ 13 hHeld ?_
  try simp only [yy]
  refine tkQ 14 hHeld ?_
  try simp only [yy]
  refine tkQ 15 hHeld ?_
  try simp only [yy]
  refine tkQ 16 hHeld ?_
  try simp only [yy]
  refine tkQ 17 hHeld ?_
  try simp only [yy]
  refine tkQ 18 hHeld ?_
  try simp only [yy]
  refine tkQ 19 hHeld ?_
  try simp only [yy]
  refine rd1 20 (fun K hK => ?_)
  rw [if_pos (by rfl)]
  refine wp_store_one 27 _ _ rfl (off := 3) (.slice ma M.length mc) hU.fb rfl rfl rfl rfl (by kernel_rfl) (show 3 + 1 ≤ 5 by decide) ?_
  intro u3 hn9 hk9
  rw [uac_ls] at hn9
  have h9 := hU.setLs M hk9 hn9 (l2.mono (Nat.zero_le _)) hmc (fun b hb1 => Off.li l2 b (.inl (hlt b hb1)))
  replace kU := kU.trans (hk9.mono (by simp [wbs]))
  refine hK.out _ _ (hHeld.kp1 hk9 (Nat.ne_of_gt h.fb.lt)) (fun hHeld => ?_)
  clear hK K hk9 hn9
  try simp only [yy]
  refine wpAnyH_done (by kernel_rfl) ?_ _
  clear hU
  go_wp2_with fail
  go_end0
  exact ⟨rfl, _, ma, mc, ta, tc, .inr (.inr (.inr (.inl ⟨by rw [edd.out], by rw [eM.out]⟩))), h9, kU, fun b hb => .inl (by simp [wbs, hb])⟩
 have f3 : (dd == 3) = false := by simp [e3]
 by_cases e4 : dd = 4
 ·subst e4
  go_upto_region 11 with fail
  replace hU := hU.below (Below.refl _ _).drew
  replace kU := kU.trans (Kp.drew _ _)
  refine wp_region_held_drew (S := fun w' => Blk w.heap.size d.arr 45 w') (by kernel_rfl) b0.drew (fun hHeld => ?_)
  refine tkQ 0 hHeld ?_
  try simp only [yy]
  refine tkQ 1 hHeld ?_
  try simp only [yy]
  refine tkQ 2 hHeld ?_
  try simp only [yy]
  refine tkQ 3 hHeld ?_
  try simp only [yy]
  refine tkQ 4 hHeld ?_
  try simp only [yy]
  refine tkQ 6 hHeld ?_
  try simp only [yy]
  refine tkH 7 (v := ?v25) rfl (by kernel_rfl) (fun _ _ _ h => h) (Or.inl ⟨by rfl, ?hy25⟩) hHeld ?_
  case hy25 => (intro w hSw; have hc := hSw.cell 1 (.int .i64 d.who) rfl; clear hSw; go_simp; try with_reducible rfl)
  try simp only [yy]
  refine tkQ 8 hHeld ?_
  try simp only [yy]
  refine tkH 9 (v := ?v27) rfl (by kernel_rfl) (fun _ _ _ h => h) (Or.inl ⟨by rfl, ?hy27⟩) hHeld ?_
  case hy27 => (intro w hSw; have hc := hSw.cell 2 (.int .i64 d.u) rfl; clear hSw; go_simp; try with_reducible rfl)
  try simp only [yy]
  refine tkQ 10 hHeld ?_
  try simp only [yy]
  refine tkH 11 (v := ?v29) rfl (by kernel_rfl) (fun _ _ _ h => h) (Or.inl ⟨by rfl, ?hy29⟩) hHeld ?_
  case hy29 => (intro w hSw; have hc := hSw.cell 3 (.int .i64 d.ix) rfl; clear hSw; go_simp; try with_reducible rfl)
  try simp only [yy]
  refine tkQ 12 hHeld ?_
  try simp only [yy]
  refine tkH 13 (v := ?v31) rfl (by kernel_rfl) (fun _ _ _ h => h) (Or.inl ⟨by rfl, ?hy31⟩) hHeld ?_
  case hy31 => (intro w hSw; have hc := hSw.cell 4 (.int .i64 d.at_) rfl; clear hSw; go_simp; try with_reducible rfl)
  try simp only [yy]
  refine tkQ 14 hHeld ?_
  try simp only [yy]
  refine tkH 15 (v := ?v33) rfl (by kernel_rfl) (fun _ _ _ h => h) (Or.inl ⟨by rfl, ?hy33⟩) hHeld ?_
  case hy33 => (intro w hSw; have hc := hSw.cell 5 (.int .u32 (d.m : Int)) rfl; clear hSw; go_simp; try with_reducible rfl)
  try simp only [yy]
  refine rd1 5 (fun K hK => ?_)
  rw [if_pos (by rfl)]
  refine wp_load_cell 27 _ rfl (.slice la q lc) rfl (show _ = some (Value.slice la q lc) from (by rw [← eq.out]; exact hU.fb.cell 3 _ rfl)) Tryz.underlying27 rfl ?_
  refine hK.out _ _ hHeld (fun hHeld => ?_)
  clear hK K 
  try simp only [yy]
  refine rd1 16 (fun K hK => ?_)
  go_simp
  go_wp2_with (refine (pU _ hU.fl).mono ?_; rintro r u2 ⟨⟨ma, mc, rfl, l2, hmc⟩, hb⟩)
  have hlt : ∀ b ∈ wbs P g u ta, b < _ := hU.lt
  replace hU := hU.below hb
  replace kU := kU.trans (Kp.of_below hb)
  refine hK.out _ _ (hHeld.below hb) (fun hHeld => ?_)
  clear hK K hb
  refine tkQ 17 hHeld ?_
  try simp only [yy]
  refine tkQ 18 hHeld ?_
  try simp only [yy]
  refine tkQ 19 hHeld ?_
  try simp only [yy]
  refine rd1 20 (fun K hK => ?_)
  rw [if_pos (by rfl)]
  refine wp_store_one 27 _ _ rfl (off := 3) (.slice ma N.length mc) hU.fb rfl rfl rfl rfl (by kernel_rfl) (show 3 + 1 ≤ 5 by decide) ?_
  intro u3 hn9 hk9
  rw [uac_ls] at hn9
  have h9 := hU.setLs N hk9 hn9 (l2.mono (Nat.zero_le _)) hmc (fun b hb1 => Off.li l2 b (.inl (hlt b hb1)))
  replace kU := kU.trans (hk9.mono (by simp [wbs]))
  refine hK.out _ _ (hHeld.kp1 hk9 (Nat.ne_of_gt h.fb.lt)) (fun hHeld => ?_)
  clear hK K hk9 hn9
  try simp only [yy]
  refine wpAnyH_done (by kernel_rfl) ?_ _
  clear hU
  go_wp2_with fail
  go_end0
  rw [← eN.out] at h9
  exact ⟨rfl, _, ma, mc, ta, tc, .inr (.inr (.inr (.inr (.inl ⟨by rw [edd.out], by rfl⟩)))), h9, kU, fun b hb => .inl (by simp [wbs, hb])⟩
 have f4 : (dd == 4) = false := by simp [e4]
 by_cases e5 : dd = 5
 ·subst e5
  go_wp2_with fail
  refine (crash_ok hU hG.n d.who).mono ?_
  rintro r w2 ⟨rfl, h2, k2⟩
  clear hU
  go_wp2_with fail
  go_end0
  exact ⟨rfl, _, la, lc, ta, tc, .inr (.inr (.inr (.inr (.inr (.inl ⟨by rw [edd.out], rfl⟩))))), h2, kU.trans k2, fun b hb => .inl (by simp [wbs, hb])⟩
 have f5 : (dd == 5) = false := by simp [e5]
 by_cases e6 : dd = 6
 ·subst e6
  go_wp2_with fail
  refine (up_ok hU hG.n (fun x hx => by obtain ⟨i, hi⟩ := List.getElem?_of_mem hx; exact (hG.c i x hi).2.2.1.own) d.who).mono ?_
  rintro r w2 ⟨rfl, h2, k2⟩
  clear hU
  go_wp2_with fail
  go_end0
  exact ⟨rfl, _, la, lc, ta, tc, .inr (.inr (.inr (.inr (.inr (.inr (.inl ⟨by rw [edd.out], rfl⟩)))))), h2, kU.trans k2, fun b hb => .inl (by simp [wbs, hb])⟩
 have f6 : (dd == 6) = false := by simp [e6]
 go_wp2_with fail
 go_end0
 exact ⟨rfl, S, la, lc, ta, tc, .inr (.inr (.inr (.inr (.inr (.inr (.inr ⟨by rw [edd.out]; omega, rfl⟩)))))), hU, kU, fun b hb => .inl (by simp [wbs, hb])⟩
end Go.Proofs.YthgfpdidilolgaaGreat
namespace Go.Proofs.YthgfpdidilolgaaGreat
set_option maxRecDepth 10000
set_option linter.unusedSimpArgs false
open Go.RowKit Go.Sort
set_option linter.unusedVariables false
theorem box_none {TS T : TypeId} (hbs : ∀ w, (Instr.buildSlice TS 0 #[]).run Tryz.prog w = .ok (.slice (some ⟨w.heap.size, 0, none⟩) 0 0) (w.alloc (.cells #[] T))) {ops : Array Oper} {rest : List Oper} {op : Oper} {a : Act} {w : World} {Q : Exit → Act → World → Prop} (hgd : op.guard = none) (ho : op.op = .buildSlice TS 0 #[])
  (h : wpList Tryz.prog ops Q rest (a.put op.dst (.slice (some ⟨w.heap.size, 0, none⟩) 0 0)) (w.alloc (.cells #[] T))) : wpList Tryz.prog ops Q (op :: rest) a w :=
 wpList_plain hgd fun _ hK => by
  have hk := hK _ _ h
  unfold Oper.wp execOp
  simp only [ho, List.map_toArray, List.map_nil, Sem.run_bind, Sem.run_pure, hbs, Result.andThen_ok]
  exact hk
theorem infoCo : ∃ i z, Tryz.prog.info? 78 = some i ∧ i.zero = some z ∧ i.size = 189 ∧ i.bytes = 792 ∧ z.cells.size = 189 := by
 have h : (Tryz.prog.info? 78).map (fun i => (i.zero, i.size, i.bytes)) = some (some (.agg (coc Co.zero)), 189, 792) := by kernel_rfl
 obtain ⟨i, hi, h0, h1, h2⟩ := info_parts h
 exact ⟨i, _, hi, h0, h1, h2, rfl⟩
def ccloneM (L : List (Co × List Kt)) (B : Nat) (e : Ending) (w' : World) : Prop := ∃ g c, e = .returned (.slice (some ⟨g, 0, none⟩) L.length c) ∧ B ≤ g ∧ Ow cov 189 78 g c L w'
theorem cclone0 (w : World) : (Instr.buildSlice 25 0 #[]).run Tryz.prog w = .ok (.slice (some ⟨w.heap.size, 0, none⟩) 0 0) (w.alloc (.cells #[] 78)) := by kernel_rfl
set_option maxHeartbeats 1000000 in
theorem cclone_ok (L : List (Co × List Kt)) (ad : Addr) (lc : Nat) (hl : L.length * 792 ≤ 140737488355328) (w : World) (hS : Li cov 0 (some ad) L w) : Calls Tryz.prog 38 #[.slice (some ad) L.length lc] w fun e w' => ccloneM L w.heap.size e w' ∧ Below w.heap.size w w' := by
 obtain ⟨iI, zI, hI, hz0, hsz, hby, hzs⟩ := infoCo
 have b1 := blk_new w #[] 78
 have hB : Below w.heap.size w (w.alloc (.cells #[] 78)) := below_box w _
 have hS1 := hS.below hB
 have hx := hS1.src (P := Tryz.prog) cov_length cov_one Tryz.underlying25 lc
 have ho : Ow cov 189 78 w.heap.size 0 [] (w.alloc (.cells #[] 78)) := Ow.empty b1
 obtain ⟨n, hn⟩ : ∃ n, Hid (L.length = n) := ⟨_, rfl⟩
 rw [hn.out] at hl hx ⊢
 have hq : ∀ w, (binOp .eql 25 (.slice (some ad) n lc) (.slice none 0 0)).run Tryz.prog w = .ok (.bool false) w := fun w => by kernel_rfl
 clear hS hS1 b1
 go_enter Tryz.func38, Tryz.ntmps38
 go_wp2_with (first | refine box_none cclone0 rfl rfl ?_ | (refine append_ow cov_length rfl _ _ rfl Tryz.underlying25 hI hz0 hsz hby hzs ho rfl (M := L) (by rw [hn.out]; exact hx) rfl (by simp [hn.out]; omega) (by simp [maxLen, hn.out]; omega) ?_; intro g' cap' w5 hg5 hb5 hc5; have hB6 : Below w.heap.size w w5 := hB.trans (hb5.below (by simp) hB.size)))
 go_ret
 exact ⟨⟨g', cap', by simp, by rcases hc5 with rfl | h <;> simp at * <;> omega, by simpa using hg5⟩, hB6⟩
def bcloneM (L : List (Bool)) (B : Nat) (e : Ending) (w' : World) : Prop := ∃ g c, e = .returned (.slice (some ⟨g, 0, none⟩) L.length c) ∧ B ≤ g ∧ Ow bvl 1 4 g c L w'
theorem bclone0 (w : World) : (Instr.buildSlice 26 0 #[]).run Tryz.prog w = .ok (.slice (some ⟨w.heap.size, 0, none⟩) 0 0) (w.alloc (.cells #[] 4)) := by kernel_rfl
set_option maxHeartbeats 1000000 in
theorem bclone_ok (L : List (Bool)) (ad : Addr) (lc : Nat) (hl : L.length * 1 ≤ 140737488355328) (w : World) (hS : Li bvl 0 (some ad) L w) : Calls Tryz.prog 40 #[.slice (some ad) L.length lc] w fun e w' => bcloneM L w.heap.size e w' ∧ Below w.heap.size w w' := by
 obtain ⟨iI, zI, hI, hz0, hsz, hby, hzs⟩ := infoBool
 have b1 := blk_new w #[] 4
 have hB : Below w.heap.size w (w.alloc (.cells #[] 4)) := below_box w _
 have hS1 := hS.below hB
 have hx := hS1.src (P := Tryz.prog) bvl_length bvl_one Tryz.underlying26 lc
 have ho : Ow bvl 1 4 w.heap.size 0 [] (w.alloc (.cells #[] 4)) := Ow.empty b1
 obtain ⟨n, hn⟩ : ∃ n, Hid (L.length = n) := ⟨_, rfl⟩
 rw [hn.out] at hl hx ⊢
 have hq : ∀ w, (binOp .eql 26 (.slice (some ad) n lc) (.slice none 0 0)).run Tryz.prog w = .ok (.bool false) w := fun w => by kernel_rfl
 clear hS hS1 b1
 go_enter Tryz.func40, Tryz.ntmps40
 go_wp2_with (first | refine box_none bclone0 rfl rfl ?_ | (refine append_ow bvl_length rfl _ _ rfl Tryz.underlying26 hI hz0 hsz hby hzs ho rfl (M := L) (by rw [hn.out]; exact hx) rfl (by simp [hn.out]; omega) (by simp [maxLen, hn.out]; omega) ?_; intro g' cap' w5 hg5 hb5 hc5; have hB6 : Below w.heap.size w w5 := hB.trans (hb5.below (by simp) hB.size)))
 go_ret
 exact ⟨⟨g', cap', by simp, by rcases hc5 with rfl | h <;> simp at * <;> omega, by simpa using hg5⟩, hB6⟩
def Kps (cs CS : List (Co × List Kt)) : Prop := CS.length = cs.length ∧ ∀ (i : Nat) (x : Co × List Kt), CS[i]? = some x → ∃ (y : Co × List Kt) (a : Option Addr) (k : Nat), cs[i]? = some y ∧ x = (y.1.kp a 0 k, [])
def Bgn (wt : Int) (cs : List (Co × List Kt)) (up : List Bool) (ls : List Le) (B : Nat) (e : Ending) (w' : World) : Prop :=
 ∃ CS g cc u uc la lc, e = .returned (.agg (uac wt (.slice (some ⟨g, 0, none⟩) CS.length cc) (.slice (some ⟨u, 0, none⟩) up.length uc) (.slice la ls.length lc) (.slice none 0 0))) ∧ Kps cs CS ∧ B ≤ g ∧ g < u ∧ Ow cov 189 78 g cc CS w' ∧ Ow bvl 1 4 u uc up w' ∧ Lg Le.vals 4 97 (u + 1) la lc ls w'
theorem kept_cell (x : Co × List Kt) (a : Option Addr) (k : Nat) : cov (x.1.kp a 0 k, []) = (cov x).set 39 (.slice a 0 k) := by kernel_rfl
theorem clc_one (wt : Int) (a b c : Option Addr) (i j k l m n : Nat) : (clc wt (.slice a i j) (.slice b k l) (.slice c m n)).all (·.oneCell') = true := by kernel_rfl
theorem uac_one (wt : Int) (a b c d : Option Addr) (i j k l m n o p : Nat) : (uac wt (.slice a i j) (.slice b k l) (.slice c m n) (.slice d o p)).all (·.oneCell') = true := by kernel_rfl
theorem clc1 (wt : Int) (c u l v : Value) : (clc wt c u l).setIfInBounds 1 v = clc wt v u l := rfl
theorem clc2 (wt : Int) (c u l v : Value) : (clc wt c u l).setIfInBounds 2 v = clc wt c v l := rfl
theorem clc3 (wt : Int) (c u l v : Value) : (clc wt c u l).setIfInBounds 3 v = clc wt c u v := rfl
set_option maxHeartbeats 8000000 in
theorem ubegin_ok (wt : Int) (cs : List (Co × List Kt)) (up : List Bool) (ls : List Le) (ca ua : Addr) (la : Option Addr) (cc0 uc0 lc0 : Nat) (w : World) (hc : Li cov 0 (some ca) cs w) (hu : Li bvl 0 (some ua) up w) (hl : Li Le.vals 0 la ls w)
  (hn8 : cs.length ≤ 8) (hu8 : up.length ≤ 8) (hl8 : ls.length ≤ 4096) (he : ∀ x ∈ cs, x.2 = [] ∧ x.1.ka = none ∧ x.1.kn = 0 ∧ x.1.kc = 0) :
  Calls Tryz.prog 29 #[.agg (clc wt (.slice (some ca) cs.length cc0) (.slice (some ua) up.length uc0) (.slice la ls.length lc0))] w fun e w' => Bgn wt cs up ls w.heap.size e w' ∧ Below w.heap.size w w' := by
 have pC := fun u' hu => cclone_ok cs ca cc0 (by omega) u' hu
 have pU := fun u' hu => bclone_ok up ua uc0 (by omega) u' hu
 have pL := fun u' hu => lclone_ok ls la lc0 (by omega) u' hu
 have pK := fun u' => clone_ok [] none 0 (by simp) u' (.inl rfl)
 obtain ⟨n, en⟩ : ∃ n, Hid (cs.length = n) := ⟨_, rfl⟩
 obtain ⟨nu, enu⟩ : ∃ n, Hid (up.length = n) := ⟨_, rfl⟩
 obtain ⟨nl, enl⟩ : ∃ n, Hid (ls.length = n) := ⟨_, rfl⟩
 obtain ⟨vU, eU⟩ : ∃ v, Hid (Value.slice (some ua) nu uc0 = v) := ⟨_, rfl⟩
 obtain ⟨vL, eL⟩ : ∃ v, Hid (Value.slice la nl lc0 = v) := ⟨_, rfl⟩
 rw [en.out] at pC hn8
 rw [enu.out] at pU
 rw [enl.out] at pL
 rw [en.out, enu.out, enl.out, eU.out, eL.out]
 rw [eU.out] at pU
 rw [eL.out] at pL
 obtain ⟨b1, b2, hB⟩ := two_blk (T0 := 29) (T1 := 86) (C0 := clc wt (.slice (some ca) n cc0) vU vL) (C1 := uac 0 (.slice none 0 0) (.slice none 0 0) (.slice none 0 0) (.slice none 0 0)) (w := w) rfl
 go_enter Tryz.func29, Tryz.ntmps29
 go_upto_region 1 with (go_big_may; refine alloc_zero zeroUa rfl rfl ?_)
 try simp only [Act.put, List.setIfInBounds_toArray, List.set_cons_zero, List.set_cons_succ]
 try simp only [alloc_size]
 generalize (w.alloc (Obj.cells (clc wt (.slice (some ca) n cc0) vU vL) 29)).alloc (Obj.cells (uac 0 (.slice none 0 0) (.slice none 0 0) (.slice none 0 0) (.slice none 0 0)) 86) = W at b1 b2 hB ⊢
 have c1 : W.cell? ⟨w.heap.size, 1, none⟩ = some (.slice (some ca) n cc0) := b1.cell 1 _ rfl
 have hq1 := b2.lt
 go_wp2_with fail
 refine (pC _ (hc.below hB)).mono ?_
 rintro r w1 ⟨⟨g, cc, rfl, hgB, hO⟩, hb⟩
 replace b1 := b1.below hb
 replace b2 := b2.below hb
 have hq1 : w.heap.size + 1 < W.heap.size := hq1
 rw [en.out]
 replace hB := hB.trans (hb.mono hB.size)
 clear pC c1 hb
 go_wp2_with (refine store_one rfl 25 _ _ rfl (off := 1) (.slice (some ⟨g, 0, none⟩) n cc) b1 rfl rfl rfl rfl (by kernel_rfl) (show 1 + 1 ≤ 4 by decide) ?_; intro w2 b3 k3; rw [clc1] at b3; have c1 : w2.cell? ⟨w.heap.size, 1, none⟩ = some (.slice (some ⟨g, 0, none⟩) n cc) := b3.cell 1 _ rfl)
 replace hO := hO.kp k3 (by simp; omega)
 replace b2 := b2.kp1 k3 (by omega)
 replace hB := below_kp hB k3 (Nat.le_refl _)
 clear c1 b1 k3
 have hK0 : Kps cs cs := ⟨rfl, fun i x hx => by
  obtain ⟨h1, h2, h3, h4⟩ := he x (List.mem_of_getElem? hx)
  refine ⟨x, none, 0, hx, ?_⟩
  have := kp_self x.1 0 h3
  rw [h2, h4] at this
  rw [this, ← h1]⟩
 go_loopw [11] (fun iv wr => ∃ (j : Nat) (CS : List (Co × List Kt)), j ≤ n ∧ iv = .int .i64 j ∧ Kps cs CS ∧ CS.length = n ∧ (∀ i, j ≤ i → CS[i]? = cs[i]?) ∧ Ow cov 189 78 g cc CS wr ∧ Blk w.heap.size (clc wt (.slice (some ⟨g, 0, none⟩) n cc) vU vL) 29 wr ∧ Blk (w.heap.size + 1) (uac 0 (.slice none 0 0) (.slice none 0 0) (.slice none 0 0) (.slice none 0 0)) 86 wr ∧ Below w.heap.size w wr) (fun iv _ => n - (intOf iv).toNat)
 case atStart => exact ⟨0, cs, by omega, rfl, hK0, en.out, fun _ _ => rfl, hO, b3, b2, hB⟩
 case round =>
  clear hK0 hO b3 b2 hB
  obtain ⟨j, CS, hj, rfl, hK, hl9, hr9, hO, b1, b2, hB⟩ := hrel
  by_cases hjn : j < n
  ·have j0 : (j : Int) < (n : Int) := by omega
   have j1 : (0 : Int) ≤ (j : Int) := by omega
   have hjl : j < CS.length := by omega
   obtain ⟨y, hy⟩ : ∃ y, CS[j]? = some y := ⟨_, List.getElem?_eq_getElem hjl⟩
   have hy2 : cs[j]? = some y := by rw [← hr9 j (Nat.le_refl _)]; exact hy
   obtain ⟨_, k1, k2, k3⟩ := he y (List.mem_of_getElem? hy2)
   go_upto_region 5 with fail
   replace hO := hO.below (Below.refl _ _).drew
   have hk39 := hO.at cov_length j y hy 39 (.slice y.1.ka y.1.kn y.1.kc) rfl
   rw [k1, k2, k3] at hk39
   replace b2 := b2.drew
   replace hB := hB.drew
   clear hy2 k1 k2 k3
   refine wp_region_held_drew (S := fun w' => Blk w.heap.size (clc wt (.slice (some ⟨g, 0, none⟩) n cc) vU vL) 29 w') (by kernel_rfl) b1.drew (fun hHeld => ?_)
   refine tkQ 0 hHeld ?_
   try simp only [yy]
   refine tkH 1 (v := ?v2) rfl (by kernel_rfl) (fun _ _ _ h => h) (Or.inl ⟨by rfl, ?hy2⟩) hHeld ?_
   case hy2 => (intro w hSw; have hc := hSw.cell 1 (.slice (some ⟨g, 0, none⟩) n cc) rfl; clear hSw; go_simp; try with_reducible rfl)
   try simp only [yy]
   refine tkQ 2 hHeld ?_
   try simp only [yy]
   refine tkQ 3 hHeld ?_
   try simp only [yy]
   refine tkH 4 (v := ?v5) rfl (by kernel_rfl) (fun _ _ _ h => h) (Or.inl ⟨by rfl, ?hy5⟩) hHeld ?_
   case hy5 => (intro w hSw; have hc := hSw.cell 1 (.slice (some ⟨g, 0, none⟩) n cc) rfl; clear hSw; go_simp; try with_reducible rfl)
   try simp only [yy]
   refine tkQ 5 hHeld ?_
   try simp only [yy]
   refine tkQ 6 hHeld ?_
   try simp only [yy]
   refine tkQ 7 hHeld ?_
   try simp only [yy]
   refine rd1 8 (fun K hK => ?_)
   rw [if_pos (by rfl)]
   refine wp_load_cell 73 _ rfl (.slice none 0 0) rfl hk39 Tryz.underlying73 rfl ?_
   refine hK.out _ _ hHeld (fun hHeld => ?_)
   clear hK K 
   try simp only [yy]
   refine rd1 9 (fun K hK => ?_)
   go_simp
   go_wp2_with (refine (pK _).mono ?_; rintro r u2 ⟨⟨a9, k9, rfl, _⟩, hb⟩)
   replace hO := hO.below hb
   replace b2 := b2.below hb
   replace hB := hB.trans (hb.mono hB.size)
   have hO1 := hO
   obtain ⟨Cg, hCg, _⟩ := hO1
   refine hK.out _ _ (hHeld.below hb) (fun hHeld => ?_)
   clear hK K hb
   refine tkQ 10 hHeld ?_
   try simp only [yy]
   refine tkQ 11 hHeld ?_
   try simp only [yy]
   refine rd1 12 (fun K hK => ?_)
   rw [if_pos (by rfl)]
   refine wp_store_one 73 _ _ rfl (off := j * 189 + 39) (.slice a9 0 k9) hCg rfl rfl rfl rfl (by kernel_rfl) (by have := hO.size1 hCg j (by omega); omega) ?_
   intro u3 hn9 hk9
   refine hK.out _ _ (hHeld.kp1 hk9 (by omega)) (fun hHeld => ?_)
   clear hK K 
   try simp only [yy]
   refine wpAnyH_done (by kernel_rfl) ?_ _
   have hO' := hO.cell1 cov_length (by decide) j y hy (y.1.kp a9 0 k9, []) (r := 39) (v := .slice a9 0 k9) (kept_cell y a9 k9) (by decide) hCg hn9
   replace b2 := b2.kp1 hk9 (by omega)
   replace hB := below_kp hB hk9 (by omega)
   have hK' : Kps cs (CS.set j (y.1.kp a9 0 k9, [])) := ⟨by rw [List.length_set]; exact hK.1, fun i x hx => by
    by_cases e : j = i
    ·subst e
     rw [List.getElem?_set_self hjl] at hx
     cases hx
     obtain ⟨z, a, k, h1, h2⟩ := hK.2 j y hy
     rw [h2]
     exact ⟨z, a9, k9, h1, rfl⟩
    ·rw [List.getElem?_set_ne e] at hx
     exact hK.2 i x hx⟩
   clear hK hO hCg hn9 hk9
   go_wp2_with fail
   exact ⟨⟨j + 1, _, by omega, by go_num, hK', by rw [List.length_set]; exact hl9, fun i hi => by rw [List.getElem?_set_ne (by omega)]; exact hr9 i (by omega), hO', hHeld, b2, hB⟩, by simp [intOf]; omega⟩
  ·obtain rfl : j = n := by omega
   clear hr9
   have c2 : wr.cell? ⟨w.heap.size, 2, none⟩ = some vU := b1.cell 2 _ rfl
   go_wp2_with fail
   refine (pU _ (hu.below hB)).mono ?_
   rintro r w3 ⟨⟨u, uc, rfl, huB, hO2⟩, hb⟩
   replace b1 := b1.below hb
   replace b2 := b2.below hb
   have hgu := Nat.lt_of_lt_of_le hO.lt huB
   replace hO := hO.below hb
   replace hB := hB.trans (hb.mono hB.size)
   rw [enu.out]
   clear pU c2 hb
   go_wp2_with (refine store_one rfl 26 _ _ rfl (off := 2) (.slice (some ⟨u, 0, none⟩) nu uc) b1 rfl rfl rfl rfl (by kernel_rfl) (show 2 + 1 ≤ 4 by decide) ?_; intro w4 b4 k4; rw [clc2] at b4; have c3 : w4.cell? ⟨w.heap.size, 3, none⟩ = some vL := b4.cell 3 _ rfl)
   replace hO := hO.kp k4 (by simp; omega)
   replace hO2 := hO2.kp k4 (by simp; omega)
   replace b2 := b2.kp1 k4 (by omega)
   replace hB := below_kp hB k4 (Nat.le_refl _)
   have hul := hO2.lt
   refine (pL _ (hl.below hB)).mono ?_
   rintro r w5 ⟨⟨ma, mc, rfl, hM⟩, hb⟩
   replace b4 := b4.below hb
   replace b2 := b2.below hb
   replace hO := hO.below hb
   replace hO2 := hO2.below hb
   replace hB := hB.trans (hb.mono hB.size)
   rw [enl.out]
   clear pL c3 b1
   go_wp2_with (first | (refine store_one rfl 27 _ _ rfl (off := 3) (.slice ma nl mc) b4 rfl rfl rfl rfl (by kernel_rfl) (show 3 + 1 ≤ 4 by decide) ?_; intro w6 b6 k6; rw [clc3] at b6; have e2 := b2.kp1 k6 (by omega)) | refine load_blk rfl 29 _ rfl b6 rfl Tryz.underlying29 rfl sizeCl ?_ | (refine build_as rfl 86 #[(0, .tmp 35)] rfl (C := uac wt (.slice (some ⟨g, 0, none⟩) j cc) (.slice (some ⟨u, 0, none⟩) nu uc) (.slice ma nl mc) (.slice none 0 0)) ?_ ?_; kernel_rfl) | (refine store_part rfl 86 _ _ rfl (off := 0) (cells := uac wt (.slice (some ⟨g, 0, none⟩) j cc) (.slice (some ⟨u, 0, none⟩) nu uc) (.slice ma nl mc) (.slice none 0 0)) e2 rfl rfl sizeUa (Nat.le_refl _) (uac_one _ _ _ _ _ _ _ _ _ _ _ _ _) ?_; intro w7 b7 k7; rw [putAt_all _ _ (by rfl)] at b7))
   have hBf := below_kp (below_kp hB k6 (Nat.le_refl _)) k7 (Nat.le_succ _)
   exact bodyPost_ret (w := w7) (v := .agg (uac wt (.slice (some ⟨g, 0, none⟩) j cc) (.slice (some ⟨u, 0, none⟩) nu uc) (.slice ma nl mc) (.slice none 0 0))) (ret_one rfl rfl b7 Tryz.underlying86 rfl sizeUa) rfl ⟨⟨CS, g, cc, u, uc, ma, mc, by rw [hl9, enu.out, enl.out], hK, by omega, hgu, (hO.kp k6 (by simp; omega)).kp k7 (by simp; omega), (hO2.kp k6 (by simp; omega)).kp k7 (by simp; omega), ((hM.kp k6 (by simp; omega)).kp k7 (by simp; omega)).mono (by omega)⟩, hBf⟩
end Go.Proofs.YthgfpdidilolgaaGreat
