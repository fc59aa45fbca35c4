/-
  Of the texts beneath these laws, in their order: ClG, ClH.
  Each theorem says its own conditions.
-/
import Derived.Test.YthgfpdidilolgaaGreatZ28
namespace Go.Proofs.YthgfpdidilolgaaGreat
set_option maxRecDepth 10000
open Go.RowKit Go.Sort
set_option linter.unusedVariables false
theorem Lg.mx {α : Type} {f : α → List Value} {k : Nat} {T : TypeId} {B : Nat} {a : Option Addr} {c : Nat} {L : List α} {w : World} (h : Lg f k T B a c L w) : c ≤ 9223372036854775807 := by
 rcases h with ⟨_, rfl, _⟩ | ⟨g, e, hB, h⟩
 ·decide
 ·exact h.len.2
theorem ite_lt {p : Prop} [Decidable p] {a b n : Nat} (ha : a < n) (hb : b < n) : (if p then a else b) < n := by split <;> assumption
theorem pack_lt {c : Co} (h : c.fit) {s : Nat} (hs : s < 8) (hc : c.self = (s : Int)) (L : List Kt) (i : Nat) : (packW c L).num i < 4294967296 := by
 have h0 : (packW c L).fr < 4294967296 := by
  show c.self.toNat < _
  rw [hc]
  show s < _
  omega
 have h1 : (packW c L).ro < 4294967296 := by
  show relO L c.beat.now < _
  unfold relO
  split
  ·decide
  ·omega
 have h2 : (packW c L).rr < 4294967296 := by
  show relR L c.beat.now < _
  unfold relR
  split
  ·decide
  ·exact (pickK L c.beat.now).lt
 have h3 : ∀ j, (packW c L).count j < 4294967296 := fun j => by
  show (if gathB c = true then c.cut else c.count) j < _
  split
  ·exact h.cut j
  ·exact h.count j
 have h4 : (packW c L).rd < 4294967296 := h.count _
 exact ite_lt h0 (ite_lt h.own (ite_lt h.conf.1 (ite_lt h.conf.2.1 (ite_lt h.conf.2.2 (ite_lt (h.mem _) (ite_lt (h3 _) (ite_lt h.pr.1 (ite_lt h.pr.2.1 (ite_lt h.pr.2.2 (ite_lt (h.want _) (ite_lt h.epoch (ite_lt h4 (ite_lt h1 (ite_lt h2 (by decide)))))))))))))))
def newL (i : Nat) (t : ByteArray) (j : Nat) : List Le := ((List.range j).filter fun k => !decide (k = i)).map fun (k : Nat) => ⟨(i : Int), (k : Int), t, false⟩
theorem newL_same (i : Nat) (t : ByteArray) : newL i t (i + 1) = newL i t i := by simp [newL, List.range_succ]
theorem newL_more (i : Nat) (t : ByteArray) (j : Nat) (h : j ≠ i) : newL i t (j + 1) = newL i t j ++ [⟨(i : Int), (j : Int), t, false⟩] := by simp [newL, List.range_succ, h]
theorem newL_len (i : Nat) (t : ByteArray) (j : Nat) : (newL i t j).length ≤ j := by
 have := List.length_filter_le (fun k => !decide (k = i)) (List.range j)
 rw [List.length_range] at this
 simpa [newL] using this
def Ltd (P : Nat) (S : Cs) (g cc u uc : Nat) (ta : Option Addr) (tc : Nat) (W : List Nat) (w w' : World) : Prop := ∃ la lc, Uc P S g cc u uc la lc ta tc w' ∧ Kp W w w'
def wriS (S : Cs) (i : Nat) (x : Pw) : Cs := if x.ok = true then (if newL i x.text S.cs.length = [] then S else ⟨S.wait, S.cs, S.up, putL S.ls (newL i x.text S.cs.length), S.t⟩) else S
theorem uac_ls (wt : Int) (c u l t v : Value) : (uac wt c u l t).setIfInBounds 3 v = uac wt c u v t := rfl
set_option maxHeartbeats 8000000 in
theorem write_ok {P : Nat} {S : Cs} {g cc u uc : Nat} {la : Option Addr} {lc : Nat} {ta : Option Addr} {tc : Nat} {w : World} (h : Uc P S g cc u uc la lc ta tc w) {m : Nat} (hG : Gd m S) (i : Nat) (x : Co × List Kt) (hx : S.cs[i]? = some x) :
  Calls Tryz.prog 64 #[.pointer (some ⟨P, 0, none⟩), .int .i64 (i : Int)] w fun e w' => e = .returned (.tuple #[]) ∧ Ltd P (wriS S i (packW x.1 x.2)) g cc u uc ta tc (wbs P g u ta) w w' := by
 obtain ⟨hi8, hcs, hft, hlz⟩ := hG.c i x hx
 have hmb := hG.b
 have hi : i < S.cs.length := (List.getElem?_eq_some_iff.1 hx).1
 have hn8 : S.cs.length ≤ 8 := by
  refine Decidable.byContradiction fun hne => ?_
  have := (hG.c 8 _ (List.getElem?_eq_getElem (by omega))).1
  omega
 obtain ⟨hkn, hK, hKo⟩ := h.fk x (List.mem_of_getElem? hx)
 replace hK := hK.mono (Nat.zero_le _)
 have pP := fun u hu => cpack_kp x.1 x.2 i hi8 hcs hft x.1.ka x.1.kc (by omega) u hu
 rw [kp_self x.1 x.2.length hkn] at pP
 have hlt := pack_lt hft hi8 hcs x.2
 obtain ⟨p, ep⟩ : ∃ p, Hid (packW x.1 x.2 = p) := ⟨_, rfl⟩
 rw [ep.out] at pP hlt ⊢
 have pE := enc_ok p hlt
 obtain ⟨n, en⟩ : ∃ n, Hid (S.cs.length = n) := ⟨_, rfl⟩
 have hin : i < n := by rw [← en.out]; exact hi
 have hr := h.fc.at cov_length i x hx
 have c1 : w.cell? ⟨P, 1, none⟩ = some (.slice (some ⟨g, 0, none⟩) n cc) := by rw [← en.out]; exact h.fb.cell 1 _ rfl
 unfold wriS
 clear hlt hi8 hcs hft hlz ep
 cases hok : p.ok with
 | false =>
  rw [if_neg Bool.false_ne_true]
  rw [hok] at pE
  go_enter Tryz.func64, Tryz.ntmps64
  go_wp2_with (refine load_range rfl 78 _ rfl (o := i * 189) (col x.1) hr rfl Tryz.underlying78 rfl sizeCo ?_)
  refine (pP _ hK).mono ?_
  rintro r w1 ⟨rfl, hb⟩
  clear pP hr c1
  go_wp2_with fail
  refine (pE _).mono ?_
  rintro r w2 ⟨rfl, hb2⟩
  clear pE
  go_wp2_with fail
  (try simp only [Exit.inBlock, Exit.then])
  refine bodyPost_ret (results_none rfl _ _ _) rfl ?_
  have hbb := hb.trans (hb2.mono hb.size)
  exact ⟨rfl, la, lc, h.below hbb, Kp.of_below hbb⟩
 | true =>
  rw [if_pos rfl]
  rw [hok] at pE
  obtain ⟨t, et⟩ : ∃ t, Hid (p.text = t) := ⟨_, rfl⟩
  rw [et.out] at pE ⊢
  rw [en.out]
  obtain ⟨X, eX⟩ : ∃ X, Hid ((if newL i t n = [] then S else ⟨S.wait, S.cs, S.up, putL S.ls (newL i t n), S.t⟩ : Cs) = X) := ⟨_, rfl⟩
  rw [eX.out]
  have hn9 : n ≤ 8 := by rw [← en.out]; exact hn8
  clear hok et
  go_enter Tryz.func64, Tryz.ntmps64
  go_wp2_with (refine load_range rfl 78 _ rfl (o := i * 189) (col x.1) hr rfl Tryz.underlying78 rfl sizeCo ?_)
  refine (pP _ hK).mono ?_
  rintro r w1 ⟨rfl, hb⟩
  clear pP hr
  go_wp2_with fail
  refine (pE _).mono ?_
  rintro r w2 ⟨rfl, hb2⟩
  replace hb := hb.trans (hb2.mono hb.size)
  replace c1 : w2.cell? ⟨P, 1, none⟩ = some (.slice (some ⟨g, 0, none⟩) n cc) := (hb.cell (p := ⟨P, 1, none⟩) h.fb.lt).trans c1
  clear pE hb2
  go_wp2_with fail
  obtain ⟨iI, zI, hI, hz0, hsz, hby, hzs⟩ := infoLe
  clear c1
  go_loopw [29, 6] (fun iv lv wr => ∃ (j : Nat) (a : Option Addr) (k : Nat), j ≤ n ∧ iv = .int .i64 j ∧ lv = .slice a (newL i t j).length k ∧ Lg Le.vals 4 97 w.heap.size a k (newL i t j) wr ∧ Below w.heap.size w wr) (fun iv _ _ => n - (intOf iv).toNat)
  case atStart => exact ⟨0, none, 0, by omega, rfl, rfl, Lg.none _ _ _, hb⟩
  case round =>
   clear hb
   obtain ⟨j, a, k, hj, rfl, rfl, hL, hb⟩ := hrel
   have hjl := newL_len i t j
   by_cases hjn : j < n
   ·have j0 : (j : Int) < (n : Int) := by omega
    have j1 : (0 : Int) ≤ (j : Int) := by omega
    by_cases hji : j = i
    ·subst hji
     have e1 : ((j : Int) != (j : Int)) = false := by simp
     go_wp2_with fail
     exact ⟨⟨j + 1, a, k, by omega, by go_num, by rw [newL_same], by rw [newL_same]; exact hL, hb⟩, by simp [intOf]; omega⟩
    ·have e1 : ((j : Int) != (i : Int)) = true := by simp; omega
     obtain ⟨m9, em⟩ : ∃ m, Hid ((newL i t j).length = m) := ⟨_, rfl⟩
     have hm : m9 ≤ 8 := by rw [← em.out]; omega
     rw [em.out]
     have hx9 := (li_box (f := Le.vals) wr (Le.mk (i : Int) (j : Int) t false) 97 0 (Nat.zero_le _))
     have hb9 := below_box wr (.cells (Le.mk (i : Int) (j : Int) t false).arr 97)
     go_wp2_with (first | (refine build_as rfl 97 #[(0, .tmp 36), (1, .tmp 37), (2, .tmp 38)] rfl (C := (Le.mk (i : Int) (j : Int) t false).arr) ?_ ?_; kernel_rfl) | refine box_le rfl _ rfl (Le.mk (i : Int) (j : Int) t false) rfl ?_ | (refine append_ln Le.vals_length rfl _ _ rfl Tryz.underlying27 hI hz0 hsz hby hzs (hL.below hb9) (Nat.le_trans hb.size hb9.size) em.out rfl (M := [Le.mk (i : Int) (j : Int) t false]) (by simp) (hx9.src (P := Tryz.prog) Le.vals_length Le.vals_one Tryz.underlying27 1) rfl (by simp; omega) (by simp [maxLen]; omega) ?_; intro a' k' w' hL' hk' hA'))
     have hb' : Below w.heap.size w w' := (hb.trans (hb9.mono hb.size)).trans (hk'.below (fun b hb1 => (hL.in b hb1).1) (Nat.le_trans hb.size hb9.size))
     exact ⟨⟨j + 1, a', k', by omega, by go_num, by rw [newL_more _ _ _ hji, List.length_append, em.out]; rfl, by rw [newL_more _ _ _ hji]; exact hL', hb'⟩, by simp [intOf]; omega⟩
   ·obtain rfl : j = n := by omega
    clear hI hz0 hsz hby hzs hj
    obtain ⟨N, eN⟩ : ∃ N, Hid (newL i t j = N) := ⟨_, rfl⟩
    rw [eN.out] at hL hjl eX ⊢
    have hU := h.below hb
    cases N with
    | nil =>
     have e : X = S := by rw [← eX.out, if_pos rfl]
     subst e
     go_wp2_with fail
     go_end0
     exact ⟨rfl, la, lc, hU, Kp.of_below hb⟩
    | cons y N =>
     have e : X = ⟨S.wait, S.cs, S.up, putL S.ls (y :: N), S.t⟩ := by rw [← eX.out, if_neg (by simp)]
     subst e
     obtain ⟨m9, em⟩ : ∃ m, Hid ((y :: N).length = m) := ⟨_, rfl⟩
     have hm : 0 < m9 := by rw [← em.out]; simp
     have hm2 : decide ((m9 : Int) > 0) = true := by rw [decide_eq_true_eq]; omega
     obtain ⟨q, eq⟩ : ∃ q, Hid (S.ls.length = q) := ⟨_, rfl⟩
     have c3 : wr.cell? ⟨P, 3, none⟩ = some (.slice la q lc) := by rw [← eq.out]; exact hU.fb.cell 3 _ rfl
     have pU := lput_ok S.ls (y :: N) la a lc k (by have := hG.l; omega) (by omega) h.flc.1 (by rw [em.out]; have := hL.cap; rw [em.out] at this; exact this) wr hU.fl (hL.li.mono (Nat.zero_le _))
     rw [em.out, eq.out] at pU
     rw [em.out]
     clear hjl eX
     go_wp2_with fail
     refine pU.mono ?_
     rintro r w3 ⟨⟨ma, mc, rfl, hM⟩, hb3⟩
     have h3 := hU.below hb3
     clear pU c3
     go_wp2_with (refine store_one rfl 27 _ _ rfl (off := 3) (.slice ma (putL S.ls (y :: N)).length mc) h3.fb rfl rfl rfl rfl (by kernel_rfl) (show 3 + 1 ≤ 5 by decide) ?_; intro w4 b4 k4)
     go_end0
     rw [uac_ls] at b4
     exact ⟨rfl, ma, mc, h3.setLs (putL S.ls (y :: N)) k4 b4 (hM.li.mono (Nat.zero_le _)) ⟨hM.cap, hM.mx⟩ (fun b hb1 => Off.lg hM b (.inl (hU.lt b hb1))), ((Kp.of_below hb).trans (Kp.of_below hb3)).trans (k4.mono (by simp [wbs]))⟩
end Go.Proofs.YthgfpdidilolgaaGreat
namespace Go.Proofs.YthgfpdidilolgaaGreat
set_option maxRecDepth 10000
set_option linter.unusedSimpArgs false
open Go.RowKit Go.Sort
set_option linter.unusedVariables false
theorem Gd.bec {m : Nat} {S : Cs} (h : Gd m S) (hm : m + 4 ≤ 1000000) {i : Nat} {x : Co × List Kt} (hx : S.cs[i]? = some x) {c : Co} {L : List Kt} {I : Idn} {t : List Hp} (h1 : c.self = x.1.self) (h2 : c.fit) (h3 : L.length ≤ x.2.length + 3) (h4 : t.length ≤ 4) : Gd (m + 4) (becS S i c L I t) := by
 have hi : i < S.cs.length := (List.getElem?_eq_some_iff.1 hx).1
 refine ⟨hm, ?_, fun j y hy => ?_, ?_, h.l⟩
 ·show S.up.length = (S.cs.set i (c, L)).length
  rw [List.length_set]
  exact h.n
 ·have hy' : (S.cs.set i (c, L))[j]? = some y := hy
  obtain ⟨a1, a2, a3, a4⟩ := h.c i x hx
  by_cases e : i = j
  ·subst e
   rw [List.getElem?_set_self hi] at hy'
   cases hy'
   exact ⟨a1, h1.trans a2, h2, by show L.length ≤ _; omega⟩
  ·rw [List.getElem?_set_ne e] at hy'
   obtain ⟨b1, b2, b3, b4⟩ := h.c j y hy'
   exact ⟨b1, b2, b3, by omega⟩
 ·show (S.t ++ tells i c.own I t).length ≤ _
  rw [List.length_append, tells_len]
  have := h.t
  omega
def Tik (P : Nat) (S : Cs) (i : Nat) (I : Idn) (s : Sg) (g cc u uc : Nat) (W : List Nat) (w w' : World) : Prop :=
 ∃ a k la lc ta' tc', Uc P (wriS (becS S i (s.c.kp a s.L.length k) s.L I s.t) i (packW s.c s.L)) g cc u uc la lc ta' tc' w' ∧ Kp W w w' ∧ ∀ b ∈ blkOf ta', b ∈ W ∨ w.heap.size ≤ b
set_option maxHeartbeats 8000000 in
theorem utick_down {P : Nat} {S : Cs} {g cc u uc : Nat} {la : Option Addr} {lc : Nat} {ta : Option Addr} {tc : Nat} {w : World} (h : Uc P S g cc u uc la lc ta tc w) {m : Nat} (hG : Gd m S) (who : Int) (f : Nat → En) (hu : isUpB S who = false) :
  Calls Tryz.prog 42 #[.pointer (some ⟨P, 0, none⟩), .int .i64 who, .agg (frc f)] w fun e w' => e = .returned (.tuple #[]) ∧ Below w.heap.size w w' := by
 have hb := below_box w (.cells (frc f) 43)
 go_enter Tryz.func42, Tryz.ntmps42
 go_upto_region 1 with fail
 generalize w.alloc (Obj.cells (frc f) 43) = w1 at hb ⊢
 have q := isUp_ok (h.below hb) hG.n who
 rw [show (isD S.cs.length who && S.up.getD who.toNat false) = false from hu] at q
 clear hu h hG
 go_wp2_with fail
 refine q.mono ?_
 rintro r w3 ⟨rfl, hb3⟩
 clear q
 go_wp2_with fail
 (try simp only [Exit.inBlock, Exit.then])
 refine bodyPost_ret (results_none rfl _ _ _) rfl ?_
 exact ⟨rfl, hb.trans (hb3.mono hb.size)⟩
set_option maxHeartbeats 8000000 in
theorem utick_ok {P : Nat} {S : Cs} {g cc u uc : Nat} {la : Option Addr} {lc : Nat} {ta : Option Addr} {tc : Nat} {w : World} (h : Uc P S g cc u uc la lc ta tc w) {m : Nat} (hG : Gd m S) (hm4 : m + 4 ≤ 1000000) (i : Nat) (f : Nat → En) (hu : isUpB S (i : Int) = true) (x : Co × List Kt) (hx : S.cs[i]? = some x) :
  Calls Tryz.prog 42 #[.pointer (some ⟨P, 0, none⟩), .int .i64 (i : Int), .agg (frc f)] w fun e w' => e = .returned (.tuple #[]) ∧ Tik P S i x.1.conf (tickS x.1 x.2 (if frOk f = true then f else noFr)) g cc u uc (wbs P g u ta) w w' := by
 obtain ⟨hi8, hcs, hft, hlz⟩ := hG.c i x hx
 have hmb := hG.b
 have hi : i < S.cs.length := (List.getElem?_eq_some_iff.1 hx).1
 obtain ⟨hkn, hK, hKo⟩ := h.fk x (List.mem_of_getElem? hx)
 replace hK := hK.mono (Nat.zero_le _)
 obtain ⟨f1, ef⟩ : ∃ f1, Hid ((if frOk f = true then f else noFr) = f1) := ⟨_, rfl⟩
 rw [ef.out]
 have hlen := tickS_len x.1 x.2 f1
 have hse := (tickS_self x.1 x.2 f1).1
 have hfi := fit_tick hft i hi8 hcs x.2 f1
 obtain ⟨s, es⟩ : ∃ s, Hid (tickS x.1 x.2 f1 = s) := ⟨_, rfl⟩
 have pT := fun u hu => ctick_kp x.1 x.2 f1 i hi8 hcs hft x.1.ka x.1.kc (by omega) u hu
 rw [kp_self x.1 x.2.length hkn] at pT
 rw [es.out] at pT hlen hse hfi ⊢
 have pC := frck_ok f
 obtain ⟨ok, eok⟩ : ∃ ok, Hid (frOk f = ok) := ⟨_, rfl⟩
 rw [eok.out] at pC ef
 obtain ⟨cd, ecd⟩ : ∃ cd : Int, Hid ((if ok = true then 0 else 30) = cd) := ⟨_, rfl⟩
 rw [ecd.out] at pC
 obtain ⟨n, en⟩ : ∃ n, Hid (S.cs.length = n) := ⟨_, rfl⟩
 have hin : i < n := by rw [← en.out]; exact hi
 have hb := below_box w (.cells (frc f) 43)
 have b6 := blk_new w (frc f) 43
 clear es eok
 go_enter Tryz.func42, Tryz.ntmps42
 go_upto_region 1 with fail
 generalize w.alloc (Obj.cells (frc f) 43) = w1 at hb b6 ⊢
 have q := isUp_ok (h.below hb) hG.n (i : Int)
 rw [show (isD S.cs.length (i : Int) && S.up.getD (i : Int).toNat false) = true from hu] at q
 clear hu
 go_wp2_with fail
 refine q.mono ?_
 rintro r w2 ⟨rfl, hb3⟩
 replace b6 := b6.below hb3
 replace hb := hb.trans (hb3.mono hb.size)
 clear q hb3 hlz
 go_wp2_with (refine load_blk rfl 43 _ rfl b6 rfl Tryz.underlying43 rfl sizeFr ?_)
 refine (pC _).mono ?_
 rintro r w3 ⟨rfl, hb3⟩
 replace b6 := b6.below hb3
 replace hb := hb.trans (hb3.mono hb.size)
 clear pC hb3
 go_upto_if 15 with fail
 go_cut [16] from 16 to 16 (fun v wx => Blk w.heap.size (frc f1) 43 wx ∧ Below w.heap.size w wx)
 case first =>
  cases ok with
  | true =>
   have e : f1 = f := ef.out.symm
   subst e
   have e : cd = 0 := ecd.out.symm
   subst e
   go_wp2_with fail
   go_meet
   exact ⟨b6, hb⟩
  | false =>
   have e : f1 = noFr := ef.out.symm
   subst e
   have e : cd = 30 := ecd.out.symm
   subst e
   go_wp2_with (first | (refine build_as rfl 43 #[] rfl (C := frc noFr) ?_ ?_; kernel_rfl) | (refine store_part rfl 43 _ _ rfl (off := 0) (cells := frc noFr) b6 rfl rfl sizeFr (Nat.le_refl _) (frc_one _) ?_; intro w9 b9 k9; rw [putAt_all _ _ (by rfl)] at b9))
   go_meet
   exact ⟨b9, hb.trans (k9.below1 (Nat.le_refl _) hb.size)⟩
 case rest =>
  clear b6 hb ef ecd
  obtain ⟨b6, hb⟩ := hcut
  rename World => V
  have hV := h.below hb
  have hK0 := hK.below hb
  go_upto_region 4 with fail
  go_cut [6, 7, 8] from 17 to 30 (fun pv bv tv wx => ∃ a2 k2 t2 j2 y, pv = .pointer (some ⟨y, 0, none⟩) ∧ tv = .slice t2 s.t.length j2 ∧ Blk y (coc (s.c.kp a2 s.L.length k2)) 78 wx ∧ Li Kt.vals V.heap.size a2 s.L wx ∧ Li Hp.vals V.heap.size t2 s.t wx ∧ Below V.heap.size V wx)
  case first =>
   refine wp_region_held_drew (S := fun w' => Below V.heap.size V w') (by kernel_rfl) (Below.refl _ _).drew (fun hHeld => ?_)
   refine tkQ 0 hHeld ?_
   try simp only [yy]
   refine tkQ 1 hHeld ?_
   try simp only [yy]
   refine tkQ 2 hHeld ?_
   try simp only [yy]
   refine tkQ 3 hHeld ?_
   try simp only [yy]
   refine tkH 4 (v := ?v5) rfl (by kernel_rfl) (fun _ _ _ h => h) (Or.inl ⟨by rfl, ?hy5⟩) hHeld ?_
   case hy5 => (intro w hSw; have hc : w.cell? ⟨P, 1, none⟩ = some (.slice (some ⟨g, 0, none⟩) n cc) := (by rw [← en.out]; exact (hV.below hSw).fb.cell 1 _ rfl); clear hSw; go_simp; try with_reducible rfl)
   try simp only [yy]
   refine tkQ 5 hHeld ?_
   try simp only [yy]
   refine tkQ 6 hHeld ?_
   try simp only [yy]
   refine' tkH 7 (v := _) rfl (by kernel_rfl) (fun _ _ _ h => h) (yieldsIf_load_mid (by rfl) _ _ rfl g (i * 189) rfl (col x.1) _ ?hS8 Tryz.underlying78 rfl sizeCo) hHeld ?_
   case hS8 => exact fun w h => (hV.below h).fc.at cov_length i x hx
   try simp only [yy]
   refine' tkH 8 (v := _) rfl (by kernel_rfl) (fun _ _ _ h => h) (yieldsIf_load_mid (by rfl) _ _ rfl w.heap.size 0 rfl (frv f1) _ ?hS9 Tryz.underlying43 rfl sizeFr) hHeld ?_
   case hS9 => exact fun w h => (b6.below h).whole
   try simp only [yy]
   refine wpAnyH_ready (rs := [9, 14]) (by kernel_rfl) (by simp) ?_
   refine AllReadyH.cons rfl (fun K hK => ?_) (AllReadyH.cons rfl (fun K hK => ?_) (AllReadyH.nil))
   ·have hcz := hHeld.size
    go_simp
    go_wp2_with (refine (pT _ (hK0.below hHeld)).mono ?_; rintro r u1 ⟨⟨a2, k2, t2, j2, rfl, l2, m2⟩, hb⟩)
    refine hK.out _ _ (hHeld.below hb) (fun hHeld => ?_)
    clear hK K hb
    refine tkQ 10 hHeld ?_
    try simp only [yy]
    refine tkQ 11 hHeld ?_
    try simp only [yy]
    refine tkQ 12 hHeld ?_
    try simp only [yy]
    refine tkQ 13 hHeld ?_
    try simp only [yy]
    refine rd1 14 (fun K hK => ?_)
    rw [if_pos (by rfl)]
    refine wp_alloc_any zeroCo rfl ?_
    intro yp u2 y0 hb yl yt
    have yg := Nat.le_trans hHeld.size yl
    have ho_l2 := Off.li l2 yp (.inr yl)
    replace l2 := l2.below hb
    have ho_m2 := Off.li m2 yp (.inr yl)
    replace m2 := m2.below hb
    refine hK.out _ _ (hHeld.below hb) (fun hHeld => ?_)
    clear hK K hb yl yt
    try simp only [yy]
    refine rd1 15 (fun K hK => ?_)
    rw [if_pos (by rfl)]
    refine wp_store_all 78 _ _ rfl (cells := (coc (s.c.kp a2 s.L.length k2))) y0 rfl rfl sizeCo rfl (coc_one _) ?_
    intro u3 hn9 hk9
    replace y0 := hn9
    replace l2 := l2.off hk9 (fun q hq => by simp at hq; subst hq; exact ho_l2)
    replace m2 := m2.off hk9 (fun q hq => by simp at hq; subst hq; exact ho_m2)
    refine hK.out _ _ (below_kp hHeld hk9 yg) (fun hHeld => ?_)
    clear hK K hk9 hn9
    try simp only [yy]
    refine tkQ 16 hHeld ?_
    try simp only [yy]
    refine tkQ 17 hHeld ?_
    try simp only [yy]
    refine wpAnyH_done (by kernel_rfl) ?_ _
    go_wp2_with fail
    go_meet
    exact ⟨a2, k2, t2, j2, yp, rfl, rfl, y0, l2.mono hcz, m2.mono hcz, hHeld⟩
   ·rw [if_pos (by rfl)]
    refine wp_alloc_any zeroCo rfl ?_
    intro yp u4 y0 hb yl yt
    have yg := Nat.le_trans hHeld.size yl
    refine hK.out _ _ (hHeld.below hb) (fun hHeld => ?_)
    clear hK K hb yl
    try simp only [yy]
    refine rd1 9 (fun K hK => ?_)
    have hcz := hHeld.size
    go_simp
    go_wp2_with (refine (pT _ (hK0.below hHeld)).mono ?_; rintro r u5 ⟨⟨a2, k2, t2, j2, rfl, l2, m2⟩, hb⟩)
    replace y0 := y0.below hb
    have ho_l2 := Off.li l2 yp (.inl yt)
    have ho_m2 := Off.li m2 yp (.inl yt)
    refine hK.out _ _ (hHeld.below hb) (fun hHeld => ?_)
    clear hK K hb
    refine tkQ 10 hHeld ?_
    try simp only [yy]
    refine tkQ 11 hHeld ?_
    try simp only [yy]
    refine tkQ 12 hHeld ?_
    try simp only [yy]
    refine tkQ 13 hHeld ?_
    try simp only [yy]
    refine rd1 15 (fun K hK => ?_)
    rw [if_pos (by rfl)]
    refine wp_store_all 78 _ _ rfl (cells := (coc (s.c.kp a2 s.L.length k2))) y0 rfl rfl sizeCo rfl (coc_one _) ?_
    intro u6 hn9 hk9
    replace y0 := hn9
    replace l2 := l2.off hk9 (fun q hq => by simp at hq; subst hq; exact ho_l2)
    replace m2 := m2.off hk9 (fun q hq => by simp at hq; subst hq; exact ho_m2)
    refine hK.out _ _ (below_kp hHeld hk9 yg) (fun hHeld => ?_)
    clear hK K hk9 hn9
    try simp only [yy]
    refine tkQ 16 hHeld ?_
    try simp only [yy]
    refine tkQ 17 hHeld ?_
    try simp only [yy]
    refine wpAnyH_done (by kernel_rfl) ?_ _
    go_wp2_with fail
    go_meet
    exact ⟨a2, k2, t2, j2, yp, rfl, rfl, y0, l2.mono hcz, m2.mono hcz, hHeld⟩
  case rest =>
   obtain ⟨a2, k2, t2, j2, y, rfl, rfl, y0, l2, m2, hb3⟩ := hcut
   rename World => w4
   have hU := hV.below hb3
   have hlt := hV.lt
   clear pT hK0 b6
   go_wp2_with (refine load_blk rfl 78 _ rfl y0 rfl Tryz.underlying78 rfl sizeCo ?_)
   refine (become_ok hU i hi x hx (s.c.kp a2 s.L.length k2) s.L s.t t2 j2 rfl (l2.mono (hlt g (by simp [wbs]))) (fun b hb => Off.li l2 b (.inl (hlt b hb))) (m2.mono (Nat.zero_le _)) (fun b hb => Off.li m2 b (.inl (hlt b hb))) (by have := hG.t; omega)).mono ?_
   rintro r w5 ⟨rfl, ta', tc', h5, k5, hA⟩
   have hbb : Below w.heap.size w w4 := hb.trans (hb3.mono hb.size)
   have hG2 := hG.bec hm4 hx (c := s.c.kp a2 s.L.length k2) (L := s.L) (I := x.1.conf) (t := s.t) hse (fit_kp hfi _ _ _) (by omega) (by omega)
   have hx2 : (becS S i (s.c.kp a2 s.L.length k2) s.L x.1.conf s.t).cs[i]? = some (s.c.kp a2 s.L.length k2, s.L) := by
    show (S.cs.set i _)[i]? = _
    rw [List.getElem?_set_self hi]
   clear hU hV hlt l2 m2 y0 hlen hse hfi hft
   go_wp2_with fail
   refine (write_ok h5 hG2 i _ hx2).mono ?_
   rintro r w6 ⟨rfl, la', lc', h6, k6⟩
   clear h5 hG hG2 hx2 hK
   go_wp2_with fail
   go_end0
   refine ⟨rfl, a2, k2, la', lc', ta', tc', h6, ((Kp.of_below hbb).trans k5).also k6 (fun b hb => ?_), fun b hb => (hA b hb).imp (fun h => by simp [wbs, h]) (fun h => Nat.le_trans hbb.size h)⟩
   simp only [wbs, List.mem_cons] at hb ⊢
   rcases hb with e | e | e | e
   ·exact .inl (.inl e)
   ·exact .inl (.inr (.inl e))
   ·exact .inl (.inr (.inr (.inl e)))
   ·exact (hA b e).imp (fun h => .inr (.inr (.inr h))) (fun h => Nat.le_trans hbb.size h)
end Go.Proofs.YthgfpdidilolgaaGreat
