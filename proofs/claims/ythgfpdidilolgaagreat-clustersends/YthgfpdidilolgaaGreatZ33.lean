/-
  Of the texts beneath these laws, in their order: ClH.
  Each theorem says its own conditions.
-/
import Derived.Test.YthgfpdidilolgaaGreatZ32
namespace Go.Proofs.YthgfpdidilolgaaGreat
set_option maxRecDepth 10000
set_option linter.unusedSimpArgs false
open Go.RowKit Go.Sort
set_option linter.unusedVariables false
theorem Gd.bec {m : Nat} {S : Cs} (h : Gd m S) (hm : m + 4 ≤ 1000000) {i : Nat} {x : Co × List Kt} (hx : S.cs[i]? = some x) {c : Co} {L : List Kt} {I : Idn} {t : List Hp} (h1 : c.self = x.1.self) (h2 : c.fit) (h3 : L.length ≤ x.2.length + 3) (h4 : t.length ≤ 4) : Gd (m + 4) (becS S i c L I t) := by
 have hi : i < S.cs.length := (List.getElem?_eq_some_iff.1 hx).1
 refine ⟨hm, ?_, fun j y hy => ?_, ?_, h.l⟩
 ·show S.up.length = (S.cs.set i (c, L)).length
  rw [List.length_set]
  exact h.n
 ·have hy' : (S.cs.set i (c, L))[j]? = some y := hy
  obtain ⟨a1, a2, a3, a4⟩ := h.c i x hx
  by_cases e : i = j
  ·subst e
   rw [List.getElem?_set_self hi] at hy'
   cases hy'
   exact ⟨a1, h1.trans a2, h2, by show L.length ≤ _; omega⟩
  ·rw [List.getElem?_set_ne e] at hy'
   obtain ⟨b1, b2, b3, b4⟩ := h.c j y hy'
   exact ⟨b1, b2, b3, by omega⟩
 ·show (S.t ++ tells i c.own I t).length ≤ _
  rw [List.length_append, tells_len]
  have := h.t
  omega
def Tik (P : Nat) (S : Cs) (i : Nat) (I : Idn) (s : Sg) (g cc u uc : Nat) (W : List Nat) (w w' : World) : Prop :=
 ∃ a k la lc ta' tc', Uc P (wriS (becS S i (s.c.kp a s.L.length k) s.L I s.t) i (packW s.c s.L)) g cc u uc la lc ta' tc' w' ∧ Kp W w w' ∧ ∀ b ∈ blkOf ta', b ∈ W ∨ w.heap.size ≤ b
set_option maxHeartbeats 8000000 in
theorem utick_down {P : Nat} {S : Cs} {g cc u uc : Nat} {la : Option Addr} {lc : Nat} {ta : Option Addr} {tc : Nat} {w : World} (h : Uc P S g cc u uc la lc ta tc w) {m : Nat} (hG : Gd m S) (who : Int) (f : Nat → En) (hu : isUpB S who = false) :
  Calls Tryz.prog 42 #[.pointer (some ⟨P, 0, none⟩), .int .i64 who, .agg (frc f)] w fun e w' => e = .returned (.tuple #[]) ∧ Below w.heap.size w w' := by
 have hb := below_box w (.cells (frc f) 43)
 go_enter Tryz.func42, Tryz.ntmps42
 go_upto_region 1 with fail
 generalize w.alloc (Obj.cells (frc f) 43) = w1 at hb ⊢
 have q := isUp_ok (h.below hb) hG.n who
 rw [show (isD S.cs.length who && S.up.getD who.toNat false) = false from hu] at q
 clear hu h hG
 go_wp2_with fail
 refine q.mono ?_
 rintro r w3 ⟨rfl, hb3⟩
 clear q
 go_wp2_with fail
 (try simp only [Exit.inBlock, Exit.then])
 refine bodyPost_ret (results_none rfl _ _ _) rfl ?_
 exact ⟨rfl, hb.trans (hb3.mono hb.size)⟩
set_option maxHeartbeats 8000000 in
theorem utick_ok {P : Nat} {S : Cs} {g cc u uc : Nat} {la : Option Addr} {lc : Nat} {ta : Option Addr} {tc : Nat} {w : World} (h : Uc P S g cc u uc la lc ta tc w) {m : Nat} (hG : Gd m S) (hm4 : m + 4 ≤ 1000000) (i : Nat) (f : Nat → En) (hu : isUpB S (i : Int) = true) (x : Co × List Kt) (hx : S.cs[i]? = some x) :
  Calls Tryz.prog 42 #[.pointer (some ⟨P, 0, none⟩), .int .i64 (i : Int), .agg (frc f)] w fun e w' => e = .returned (.tuple #[]) ∧ Tik P S i x.1.conf (tickS x.1 x.2 (if frOk f = true then f else noFr)) g cc u uc (wbs P g u ta) w w' := by
 obtain ⟨hi8, hcs, hft, hlz⟩ := hG.c i x hx
 have hmb := hG.b
 have hi : i < S.cs.length := (List.getElem?_eq_some_iff.1 hx).1
 obtain ⟨hkn, hK, hKo⟩ := h.fk x (List.mem_of_getElem? hx)
 obtain ⟨f1, ef⟩ : ∃ f1, Hid ((if frOk f = true then f else noFr) = f1) := ⟨_, rfl⟩
 rw [ef.out]
 have hlen := tickS_len x.1 x.2 f1
 have hse := (tickS_self x.1 x.2 f1).1
 have hfi := fit_tick hft i hi8 hcs x.2 f1
 obtain ⟨s, es⟩ : ∃ s, Hid (tickS x.1 x.2 f1 = s) := ⟨_, rfl⟩
 have pT := fun u hu => ctick_kp x.1 x.2 f1 i hi8 hcs hft x.1.ka x.1.kc (by omega) u hu
 rw [kp_self x.1 x.2.length hkn] at pT
 rw [es.out] at pT hlen hse hfi ⊢
 have pC := frck_ok f
 obtain ⟨ok, eok⟩ : ∃ ok, Hid (frOk f = ok) := ⟨_, rfl⟩
 rw [eok.out] at pC ef
 obtain ⟨cd, ecd⟩ : ∃ cd : Int, Hid ((if ok = true then 0 else 30) = cd) := ⟨_, rfl⟩
 rw [ecd.out] at pC
 obtain ⟨n, en⟩ : ∃ n, Hid (S.cs.length = n) := ⟨_, rfl⟩
 have hin : i < n := by rw [← en.out]; exact hi
 have hb := below_box w (.cells (frc f) 43)
 have b6 := blk_new w (frc f) 43
 clear es eok
 go_enter Tryz.func42, Tryz.ntmps42
 go_upto_region 1 with fail
 generalize w.alloc (Obj.cells (frc f) 43) = w1 at hb b6 ⊢
 have q := isUp_ok (h.below hb) hG.n (i : Int)
 rw [show (isD S.cs.length (i : Int) && S.up.getD (i : Int).toNat false) = true from hu] at q
 clear hu
 go_wp2_with fail
 refine q.mono ?_
 rintro r w2 ⟨rfl, hb3⟩
 replace b6 := b6.below hb3
 replace hb := hb.trans (hb3.mono hb.size)
 clear q hb3 hlz
 go_wp2_with (refine load_blk rfl 43 _ rfl b6 rfl Tryz.underlying43 rfl sizeFr ?_)
 refine (pC _).mono ?_
 rintro r w3 ⟨rfl, hb3⟩
 replace b6 := b6.below hb3
 replace hb := hb.trans (hb3.mono hb.size)
 clear pC hb3
 go_upto_if 15 with fail
 go_cut [16] from 16 to 16 (fun v wx => Blk w.heap.size (frc f1) 43 wx ∧ Below w.heap.size w wx)
 case first =>
  cases ok with
  | true =>
   have e : f1 = f := ef.out.symm
   subst e
   have e : cd = 0 := ecd.out.symm
   subst e
   go_wp2_with fail
   go_meet
   exact ⟨b6, hb⟩
  | false =>
   have e : f1 = noFr := ef.out.symm
   subst e
   have e : cd = 30 := ecd.out.symm
   subst e
   go_wp2_with (first | (refine build_as rfl 43 #[] rfl (C := frc noFr) ?_ ?_; kernel_rfl) | (refine store_part rfl 43 _ _ rfl (off := 0) (cells := frc noFr) b6 rfl rfl sizeFr (Nat.le_refl _) (frc_one _) ?_; intro w9 b9 k9; rw [putAt_all _ _ (by rfl)] at b9))
   go_meet
   exact ⟨b9, hb.trans (k9.below1 (Nat.le_refl _) hb.size)⟩
 case rest =>
  clear b6 hb ef ecd
  obtain ⟨b6, hb⟩ := hcut
  rename World => V
  have hV := h.below hb
  have hK0 := hK.below hb
  go_upto_region 4 with fail
  go_cut [6, 7, 8] from 17 to 30 (fun pv bv tv wx => ∃ a2 k2 t2 j2 y, pv = .pointer (some ⟨y, 0, none⟩) ∧ tv = .slice t2 s.t.length j2 ∧ Blk y (coc (s.c.kp a2 s.L.length k2)) 78 wx ∧ Li Kt.vals V.heap.size a2 s.L wx ∧ Li Hp.vals V.heap.size t2 s.t wx ∧ Below V.heap.size V wx)
  case first =>
   refine wp_region_held_drew (S := fun w' => Below V.heap.size V w') (by kernel_rfl) (Below.refl _ _).drew (fun hHeld => ?_)
   refine tkH 0 (v := ?v1) rfl (by kernel_rfl) (fun _ _ _ h => h) (Or.inl ⟨by rfl, ?hy1⟩) hHeld ?_
   case hy1 => (intro w hSw; clear hSw; go_simp; try with_reducible rfl)
   try simp only [yA, yB, yC, Act.put, yD, yE, yF]
   refine tkH 1 (v := ?v2) rfl (by kernel_rfl) (fun _ _ _ h => h) (Or.inl ⟨by rfl, ?hy2⟩) hHeld ?_
   case hy2 => (intro w hSw; clear hSw; go_simp; try with_reducible rfl)
   try simp only [yA, yB, yC, Act.put, yD, yE, yF]
   refine tkH 2 (v := ?v3) rfl (by kernel_rfl) (fun _ _ _ h => h) (Or.inl ⟨by rfl, ?hy3⟩) hHeld ?_
   case hy3 => (intro w hSw; clear hSw; go_simp; try with_reducible rfl)
   try simp only [yA, yB, yC, Act.put, yD, yE, yF]
   refine tkH 3 (v := ?v4) rfl (by kernel_rfl) (fun _ _ _ h => h) (Or.inl ⟨by rfl, ?hy4⟩) hHeld ?_
   case hy4 => (intro w hSw; clear hSw; go_simp; try with_reducible rfl)
   try simp only [yA, yB, yC, Act.put, yD, yE, yF]
   refine tkH 4 (v := ?v5) rfl (by kernel_rfl) (fun _ _ _ h => h) (Or.inl ⟨by rfl, ?hy5⟩) hHeld ?_
   case hy5 => (intro w hSw; have hc : w.cell? ⟨P, 1, none⟩ = some (.slice (some ⟨g, 0, none⟩) n cc) := (by rw [← en.out]; exact (hV.below hSw).fb.cell 1 _ rfl); clear hSw; go_simp; try with_reducible rfl)
   try simp only [yA, yB, yC, Act.put, yD, yE, yF]
   refine tkH 5 (v := ?v6) rfl (by kernel_rfl) (fun _ _ _ h => h) (Or.inl ⟨by rfl, ?hy6⟩) hHeld ?_
   case hy6 => (intro w hSw; clear hSw; go_simp; try with_reducible rfl)
   try simp only [yA, yB, yC, Act.put, yD, yE, yF]
   refine tkH 6 (v := ?v7) rfl (by kernel_rfl) (fun _ _ _ h => h) (Or.inl ⟨by rfl, ?hy7⟩) hHeld ?_
   case hy7 => (intro w hSw; clear hSw; go_simp; try with_reducible rfl)
   try simp only [yA, yB, yC, Act.put, yD, yE, yF]
   refine' tkH 7 (v := _) rfl (by kernel_rfl) (fun _ _ _ h => h) (yieldsIf_load_mid (by rfl) _ _ rfl g (i * 189) rfl (col x.1) _ ?hS8 Tryz.underlying78 rfl sizeCo) hHeld ?_
   case hS8 => exact fun w h => (hV.below h).fc.at cov_length i x hx
   try simp only [yA, yB, yC, Act.put, yD, yE, yF]
   refine' tkH 8 (v := _) rfl (by kernel_rfl) (fun _ _ _ h => h) (yieldsIf_load_mid (by rfl) _ _ rfl w.heap.size 0 rfl (frv f1) _ ?hS9 Tryz.underlying43 rfl sizeFr) hHeld ?_
   case hS9 => exact fun w h => (b6.below h).whole
   try simp only [yA, yB, yC, Act.put, yD, yE, yF]
   refine wpAnyH_ready (rs := [9, 14]) (by kernel_rfl) (by simp) ?_
   refine AllReadyH.cons rfl (fun K hK => ?_) (AllReadyH.cons rfl (fun K hK => ?_) (AllReadyH.nil))
   ·have hcz := hHeld.size
    go_simp
    go_wp2_with (refine (pT _ (hK0.below hHeld)).mono ?_; rintro r u1 ⟨⟨a2, k2, t2, j2, rfl, l2, m2⟩, hb⟩)
    refine hK.out _ _ (hHeld.below hb) (fun hHeld => ?_)
    clear hK K hb
    refine tkH 10 (v := ?v10) rfl (by kernel_rfl) (fun _ _ _ h => h) (Or.inl ⟨by rfl, ?hy10⟩) hHeld ?_
    case hy10 => (intro w hSw; clear hSw; go_simp; try with_reducible rfl)
    try simp only [yA, yB, yC, Act.put, yD, yE, yF]
    refine tkH 11 (v := ?v11) rfl (by kernel_rfl) (fun _ _ _ h => h) (Or.inl ⟨by rfl, ?hy11⟩) hHeld ?_
    case hy11 => (intro w hSw; clear hSw; go_simp; try with_reducible rfl)
    try simp only [yA, yB, yC, Act.put, yD, yE, yF]
    refine tkH 12 (v := ?v12) rfl (by kernel_rfl) (fun _ _ _ h => h) (Or.inl ⟨by rfl, ?hy12⟩) hHeld ?_
    case hy12 => (intro w hSw; clear hSw; go_simp; try with_reducible rfl)
    try simp only [yA, yB, yC, Act.put, yD, yE, yF]
    refine tkH 13 (v := ?v13) rfl (by kernel_rfl) (fun _ _ _ h => h) (Or.inl ⟨by rfl, ?hy13⟩) hHeld ?_
    case hy13 => (intro w hSw; clear hSw; go_simp; try with_reducible rfl)
    try simp only [yA, yB, yC, Act.put, yD, yE, yF]
    refine wpAnyH_ready (rs := [14]) (by kernel_rfl) (by simp) ?_
    refine AllReadyH.cons rfl (fun K hK => ?_) (AllReadyH.nil)
    rw [if_pos (by rfl)]
    refine wp_alloc_any zeroCo rfl ?_
    intro yp u2 y0 hb yl yt
    have yg := Nat.le_trans hHeld.size yl
    have ho_l2 := Off.li l2 yp (.inr yl)
    replace l2 := l2.below hb
    have ho_m2 := Off.li m2 yp (.inr yl)
    replace m2 := m2.below hb
    refine hK.out _ _ (hHeld.below hb) (fun hHeld => ?_)
    clear hK K hb yl yt
    try simp only [yA, yB, yC, Act.put, yD, yE, yF]
    refine wpAnyH_ready (rs := [15]) (by kernel_rfl) (by simp) ?_
    refine AllReadyH.cons rfl (fun K hK => ?_) (AllReadyH.nil)
    rw [if_pos (by rfl)]
    refine wp_store_all 78 _ _ rfl (cells := (coc (s.c.kp a2 s.L.length k2))) y0 rfl rfl sizeCo rfl (coc_one _) ?_
    intro u3 hn9 hk9
    replace y0 := hn9
    replace l2 := l2.off hk9 (fun q hq => by simp at hq; subst hq; exact ho_l2)
    replace m2 := m2.off hk9 (fun q hq => by simp at hq; subst hq; exact ho_m2)
    refine hK.out _ _ (below_kp hHeld hk9 yg) (fun hHeld => ?_)
    clear hK K hk9 hn9
    try simp only [yA, yB, yC, Act.put, yD, yE, yF]
    refine tkH 16 (v := ?v14) rfl (by kernel_rfl) (fun _ _ _ h => h) (Or.inl ⟨by rfl, ?hy14⟩) hHeld ?_
    case hy14 => (intro w hSw; clear hSw; go_simp; try with_reducible rfl)
    try simp only [yA, yB, yC, Act.put, yD, yE, yF]
    refine tkH 17 (v := ?v15) rfl (by kernel_rfl) (fun _ _ _ h => h) (Or.inl ⟨by rfl, ?hy15⟩) hHeld ?_
    case hy15 => (intro w hSw; clear hSw; go_simp; try with_reducible rfl)
    try simp only [yA, yB, yC, Act.put, yD, yE, yF]
    refine wpAnyH_done (by kernel_rfl) ?_ _
    go_wp2_with fail
    go_meet
    exact ⟨a2, k2, t2, j2, yp, rfl, rfl, y0, l2.mono hcz, m2.mono hcz, hHeld⟩
   ·rw [if_pos (by rfl)]
    refine wp_alloc_any zeroCo rfl ?_
    intro yp u4 y0 hb yl yt
    have yg := Nat.le_trans hHeld.size yl
    refine hK.out _ _ (hHeld.below hb) (fun hHeld => ?_)
    clear hK K hb yl
    try simp only [yA, yB, yC, Act.put, yD, yE, yF]
    refine wpAnyH_ready (rs := [9]) (by kernel_rfl) (by simp) ?_
    refine AllReadyH.cons rfl (fun K hK => ?_) (AllReadyH.nil)
    have hcz := hHeld.size
    go_simp
    go_wp2_with (refine (pT _ (hK0.below hHeld)).mono ?_; rintro r u5 ⟨⟨a2, k2, t2, j2, rfl, l2, m2⟩, hb⟩)
    replace y0 := y0.below hb
    have ho_l2 := Off.li l2 yp (.inl yt)
    have ho_m2 := Off.li m2 yp (.inl yt)
    refine hK.out _ _ (hHeld.below hb) (fun hHeld => ?_)
    clear hK K hb
    refine tkH 10 (v := ?v16) rfl (by kernel_rfl) (fun _ _ _ h => h) (Or.inl ⟨by rfl, ?hy16⟩) hHeld ?_
    case hy16 => (intro w hSw; clear hSw; go_simp; try with_reducible rfl)
    try simp only [yA, yB, yC, Act.put, yD, yE, yF]
    refine tkH 11 (v := ?v17) rfl (by kernel_rfl) (fun _ _ _ h => h) (Or.inl ⟨by rfl, ?hy17⟩) hHeld ?_
    case hy17 => (intro w hSw; clear hSw; go_simp; try with_reducible rfl)
    try simp only [yA, yB, yC, Act.put, yD, yE, yF]
    refine tkH 12 (v := ?v18) rfl (by kernel_rfl) (fun _ _ _ h => h) (Or.inl ⟨by rfl, ?hy18⟩) hHeld ?_
    case hy18 => (intro w hSw; clear hSw; go_simp; try with_reducible rfl)
    try simp only [yA, yB, yC, Act.put, yD, yE, yF]
    refine tkH 13 (v := ?v19) rfl (by kernel_rfl) (fun _ _ _ h => h) (Or.inl ⟨by rfl, ?hy19⟩) hHeld ?_
    case hy19 => (intro w hSw; clear hSw; go_simp; try with_reducible rfl)
    try simp only [yA, yB, yC, Act.put, yD, yE, yF]
    refine wpAnyH_ready (rs := [15]) (by kernel_rfl) (by simp) ?_
    refine AllReadyH.cons rfl (fun K hK => ?_) (AllReadyH.nil)
    rw [if_pos (by rfl)]
    refine wp_store_all 78 _ _ rfl (cells := (coc (s.c.kp a2 s.L.length k2))) y0 rfl rfl sizeCo rfl (coc_one _) ?_
    intro u6 hn9 hk9
    replace y0 := hn9
    replace l2 := l2.off hk9 (fun q hq => by simp at hq; subst hq; exact ho_l2)
    replace m2 := m2.off hk9 (fun q hq => by simp at hq; subst hq; exact ho_m2)
    refine hK.out _ _ (below_kp hHeld hk9 yg) (fun hHeld => ?_)
    clear hK K hk9 hn9
    try simp only [yA, yB, yC, Act.put, yD, yE, yF]
    refine tkH 16 (v := ?v20) rfl (by kernel_rfl) (fun _ _ _ h => h) (Or.inl ⟨by rfl, ?hy20⟩) hHeld ?_
    case hy20 => (intro w hSw; clear hSw; go_simp; try with_reducible rfl)
    try simp only [yA, yB, yC, Act.put, yD, yE, yF]
    refine tkH 17 (v := ?v21) rfl (by kernel_rfl) (fun _ _ _ h => h) (Or.inl ⟨by rfl, ?hy21⟩) hHeld ?_
    case hy21 => (intro w hSw; clear hSw; go_simp; try with_reducible rfl)
    try simp only [yA, yB, yC, Act.put, yD, yE, yF]
    refine wpAnyH_done (by kernel_rfl) ?_ _
    go_wp2_with fail
    go_meet
    exact ⟨a2, k2, t2, j2, yp, rfl, rfl, y0, l2.mono hcz, m2.mono hcz, hHeld⟩
  case rest =>
   obtain ⟨a2, k2, t2, j2, y, rfl, rfl, y0, l2, m2, hb3⟩ := hcut
   rename World => w4
   have hU := hV.below hb3
   have hlt := hV.lt
   clear pT hK0 b6
   go_wp2_with (refine load_blk rfl 78 _ rfl y0 rfl Tryz.underlying78 rfl sizeCo ?_)
   refine (become_ok hU i hi x hx (s.c.kp a2 s.L.length k2) s.L s.t t2 j2 rfl (l2.mono (Nat.zero_le _)) (fun b hb => Off.li l2 b (.inl (hlt b hb))) (m2.mono (Nat.zero_le _)) (fun b hb => Off.li m2 b (.inl (hlt b hb))) (by have := hG.t; omega)).mono ?_
   rintro r w5 ⟨rfl, ta', tc', h5, k5, hA⟩
   have hbb : Below w.heap.size w w4 := hb.trans (hb3.mono hb.size)
   have hG2 := hG.bec hm4 hx (c := s.c.kp a2 s.L.length k2) (L := s.L) (I := x.1.conf) (t := s.t) hse (fit_kp hfi _ _ _) (by omega) (by omega)
   have hx2 : (becS S i (s.c.kp a2 s.L.length k2) s.L x.1.conf s.t).cs[i]? = some (s.c.kp a2 s.L.length k2, s.L) := by
    show (S.cs.set i _)[i]? = _
    rw [List.getElem?_set_self hi]
   clear hU hV hlt l2 m2 y0 hlen hse hfi hft
   go_wp2_with fail
   refine (write_ok h5 hG2 i _ hx2).mono ?_
   rintro r w6 ⟨rfl, la', lc', h6, k6⟩
   clear h5 hG hG2 hx2 hK
   go_wp2_with fail
   go_end0
   refine ⟨rfl, a2, k2, la', lc', ta', tc', h6, ((Kp.of_below hbb).trans k5).also k6 (fun b hb => ?_), fun b hb => (hA b hb).imp (fun h => by simp [wbs, h]) (fun h => Nat.le_trans hbb.size h)⟩
   simp only [wbs, List.mem_cons] at hb ⊢
   rcases hb with e | e | e | e
   ·exact .inl (.inl e)
   ·exact .inl (.inr (.inl e))
   ·exact .inl (.inr (.inr (.inl e)))
   ·exact (hA b e).imp (fun h => .inr (.inr (.inr h))) (fun h => Nat.le_trans hbb.size h)
end Go.Proofs.YthgfpdidilolgaaGreat
