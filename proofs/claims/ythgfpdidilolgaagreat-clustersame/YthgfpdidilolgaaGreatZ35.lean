/-
  Of the texts beneath these laws, in their order: ClD.
  Each theorem says its own conditions.
-/
import Derived.Test.YthgfpdidilolgaaGreatZ16
import Derived.Test.YthgfpdidilolgaaGreatZ31
namespace Go.Proofs.YthgfpdidilolgaaGreat
set_option maxRecDepth 10000
set_option linter.unusedSimpArgs false
open Go.RowKit Go.Sort
set_option linter.unusedVariables false
def upS (S : Cs) (who : Int) : Cs :=
 if isD S.cs.length who = true ∧ S.up.getD who.toNat false = false then
  match S.cs[who.toNat]? with
  | none => S
  | some x => if startB who ((x.1.own + 1) % 4294967296) S.wait = true then ⟨S.wait, S.cs.set who.toNat (startC who ((x.1.own + 1) % 4294967296) S.wait, []), S.up.set who.toNat true, S.ls, S.t⟩ else S
 else S
set_option maxHeartbeats 4000000 in
theorem up_ok {P : Nat} {S : Cs} {g cc u uc : Nat} {la : Option Addr} {lc : Nat} {ta : Option Addr} {tc : Nat} {w : World} (h : Uc P S g cc u uc la lc ta tc w) (hn : S.up.length = S.cs.length) (ho : ∀ x ∈ S.cs, x.1.own < 4294967296) (who : Int) :
  Calls Tryz.prog 48 #[.pointer (some ⟨P, 0, none⟩), .int .i64 who] w fun e w' => e = .returned (.tuple #[]) ∧ Uc P (upS S who) g cc u uc la lc ta tc w' ∧ Kp (wbs P g u ta) w w' := by
 have p := isD_ok h hn who
 unfold upS
 cases hd : isD S.cs.length who with
 | false =>
  rw [hd] at p
  rw [if_neg (by simp)]
  go_enter Tryz.func48, Tryz.ntmps48
  go_wp2_with fail
  refine p.mono ?_
  rintro r w1 ⟨rfl, hb⟩
  clear p hd
  go_wp2_with fail
  (try simp only [Exit.inBlock, Exit.then])
  refine bodyPost_ret (results_none rfl _ _ _) rfl ?_
  exact ⟨rfl, h.below hb, Kp.of_below hb⟩
 | true =>
  rw [hd] at p
  unfold isD at hd
  rw [decide_eq_true_eq] at hd
  obtain ⟨i, rfl⟩ : ∃ i : Nat, who = (i : Int) := ⟨who.toNat, by omega⟩
  have hi : i < S.up.length := by omega
  have hi' : i < S.cs.length := by omega
  obtain ⟨b, hb0⟩ : ∃ b, S.up[i]? = some b := ⟨_, List.getElem?_eq_getElem hi⟩
  obtain ⟨x, hx⟩ : ∃ x, S.cs[i]? = some x := ⟨_, List.getElem?_eq_getElem hi'⟩
  have hox := ho x (List.mem_of_getElem? hx)
  rw [Int.toNat_natCast, List.getD_eq_getElem?_getD, hb0, hx]
  simp only [Option.getD_some, true_and]
  obtain ⟨n, en⟩ : ∃ n, Hid (S.cs.length = n) := ⟨_, rfl⟩
  obtain ⟨o, eo⟩ : ∃ o, Hid (x.1.own = o) := ⟨_, rfl⟩
  obtain ⟨wt, ew⟩ : ∃ wt, Hid (S.wait = wt) := ⟨_, rfl⟩
  obtain ⟨q, eq⟩ : ∃ q, Hid ((o + 1) % 4294967296 = q) := ⟨_, rfl⟩
  have hin : i < n := by rw [← en.out]; exact hi'
  have hw1 : IntKind.u32.wrap ((o : Int) + 1) = (q : Int) := by
   rw [IntKind.wrap_u32, ← eq.out]
   rw [eo.out] at hox
   omega
  rw [eo.out, eq.out, ew.out]
  clear hox ho
  cases b with
  | true =>
   rw [if_neg (by simp)]
   go_enter Tryz.func48, Tryz.ntmps48
   go_wp2_with fail
   refine p.mono ?_
   rintro r w1 ⟨rfl, hb⟩
   have h1 := h.below hb
   have c2 : w1.cell? ⟨P, 2, none⟩ = some (.slice (some ⟨u, 0, none⟩) n uc) := by rw [← en.out, ← hn]; exact h1.fb.cell 2 _ rfl
   have c3 : w1.cell? ⟨u, i, none⟩ = some (.bool true) := by
    have := h1.fu.at bvl_length i true hb0 0 _ rfl
    rw [Nat.mul_one, Nat.add_zero] at this
    exact this
   clear p hd hw1 hi hi'
   go_wp2_with fail
   (try simp only [Exit.inBlock, Exit.then])
   refine bodyPost_ret (results_none rfl _ _ _) rfl ?_
   exact ⟨rfl, h1, Kp.of_below hb⟩
  | false =>
   rw [if_pos rfl]
   obtain ⟨Z, hZ⟩ : ∃ Z, Hid (startC (i : Int) q wt = Z) := ⟨_, rfl⟩
   rw [hZ.out]
   have pS := start_ok (i : Int) q wt
   rw [hZ.out] at pS
   obtain ⟨sb, hsb⟩ : ∃ sb, Hid (startB (i : Int) q wt = sb) := ⟨_, rfl⟩
   rw [hsb.out] at pS ⊢
   obtain ⟨X, hX⟩ : ∃ X, Hid ((if sb = true then (⟨S.wait, S.cs.set i (Z, []), S.up.set i true, S.ls, S.t⟩ : Cs) else S) = X) := ⟨_, rfl⟩
   rw [← ew.out] at hZ
   rw [← ew.out, hX.out]
   rw [ew.out] at hZ
   clear hsb
   go_enter Tryz.func48, Tryz.ntmps48
   go_wp2_with fail
   refine p.mono ?_
   rintro r w1 ⟨rfl, hb⟩
   have h1 := h.below hb
   have c2 : w1.cell? ⟨P, 2, none⟩ = some (.slice (some ⟨u, 0, none⟩) n uc) := by rw [← en.out, ← hn]; exact h1.fb.cell 2 _ rfl
   have c3 : w1.cell? ⟨u, i, none⟩ = some (.bool false) := by
    have := h1.fu.at bvl_length i false hb0 0 _ rfl
    rw [Nat.mul_one, Nat.add_zero] at this
    exact this
   clear p hd hi hi'
   go_upto_region 1 with fail
   clear c2 c3 h
   have hV := h1
   clear h1
   have hbV : Below w.heap.size w w1 := hb
   clear hb
   generalize w1 = V at *
   go_cut [4, 5] from 20 to 39 (fun pv bv wx => bv = .bool sb ∧ ∃ y, pv = .pointer (some ⟨y, 0, none⟩) ∧ V.heap.size ≤ y ∧ Blk y (coc Z) 78 wx ∧ Below V.heap.size V wx)
   case first =>
    refine wp_region_held_drew (S := fun w' => Below V.heap.size V w') (by kernel_rfl) (Below.refl _ _).drew (fun hHeld => ?_)
    refine tkH 0 (v := ?v1) rfl (by kernel_rfl) (fun _ _ _ h => h) (Or.inl ⟨by rfl, ?hy1⟩) hHeld ?_
    case hy1 => (intro w hSw; clear hSw; go_simp; try with_reducible rfl)
    try simp only [yA, yB, yC, Act.put, yD, yE, yF]
    refine tkH 1 (v := ?v2) rfl (by kernel_rfl) (fun _ _ _ h => h) (Or.inl ⟨by rfl, ?hy2⟩) hHeld ?_
    case hy2 => (intro w hSw; clear hSw; go_simp; try with_reducible rfl)
    try simp only [yA, yB, yC, Act.put, yD, yE, yF]
    refine tkH 2 (v := ?v3) rfl (by kernel_rfl) (fun _ _ _ h => h) (Or.inl ⟨by rfl, ?hy3⟩) hHeld ?_
    case hy3 => (intro w hSw; clear hSw; go_simp; try with_reducible rfl)
    try simp only [yA, yB, yC, Act.put, yD, yE, yF]
    refine tkH 3 (v := ?v4) rfl (by kernel_rfl) (fun _ _ _ h => h) (Or.inl ⟨by rfl, ?hy4⟩) hHeld ?_
    case hy4 => (intro w hSw; clear hSw; go_simp; try with_reducible rfl)
    try simp only [yA, yB, yC, Act.put, yD, yE, yF]
    refine tkH 4 (v := ?v5) rfl (by kernel_rfl) (fun _ _ _ h => h) (Or.inl ⟨by rfl, ?hy5⟩) hHeld ?_
    case hy5 => (intro w hSw; clear hSw; go_simp; try with_reducible rfl)
    try simp only [yA, yB, yC, Act.put, yD, yE, yF]
    refine tkH 5 (v := ?v6) rfl (by kernel_rfl) (fun _ _ _ h => h) (Or.inl ⟨by rfl, ?hy6⟩) hHeld ?_
    case hy6 => (intro w hSw; have hc : w.cell? ⟨P, 1, none⟩ = some (.slice (some ⟨g, 0, none⟩) n cc) := (by rw [← en.out]; exact (hV.below hSw).fb.cell 1 _ rfl); clear hSw; go_simp; try with_reducible rfl)
    try simp only [yA, yB, yC, Act.put, yD, yE, yF]
    refine tkH 6 (v := ?v7) rfl (by kernel_rfl) (fun _ _ _ h => h) (Or.inl ⟨by rfl, ?hy7⟩) hHeld ?_
    case hy7 => (intro w hSw; clear hSw; go_simp; try with_reducible rfl)
    try simp only [yA, yB, yC, Act.put, yD, yE, yF]
    refine tkH 7 (v := ?v8) rfl (by kernel_rfl) (fun _ _ _ h => h) (Or.inl ⟨by rfl, ?hy8⟩) hHeld ?_
    case hy8 => (intro w hSw; clear hSw; go_simp; try with_reducible rfl)
    try simp only [yA, yB, yC, Act.put, yD, yE, yF]
    refine tkH 8 (v := ?v9) rfl (by kernel_rfl) (fun _ _ _ h => h) (Or.inl ⟨by rfl, ?hy9⟩) hHeld ?_
    case hy9 => (intro w hSw; clear hSw; go_simp; try with_reducible rfl)
    try simp only [yA, yB, yC, Act.put, yD, yE, yF]
    refine tkH 9 (v := ?v10) rfl (by kernel_rfl) (fun _ _ _ h => h) (Or.inl ⟨by rfl, ?hy10⟩) hHeld ?_
    case hy10 => (intro w hSw; have hc : w.cell? ⟨g, i * 189 + 2, none⟩ = some (.int .u32 (o : Int)) := (by rw [← eo.out]; exact (hV.below hSw).fc.at cov_length i x hx 2 _ rfl); clear hSw; go_simp; try with_reducible rfl)
    try simp only [yA, yB, yC, Act.put, yD, yE, yF]
    refine tkH 10 (v := ?v11) rfl (by kernel_rfl) (fun _ _ _ h => h) (Or.inl ⟨by rfl, ?hy11⟩) hHeld ?_
    case hy11 => (intro w hSw; clear hSw; go_simp; try with_reducible rfl)
    try simp only [yA, yB, yC, Act.put, yD, yE, yF]
    refine tkH 11 (v := ?v12) rfl (by kernel_rfl) (fun _ _ _ h => h) (Or.inl ⟨by rfl, ?hy12⟩) hHeld ?_
    case hy12 => (intro w hSw; clear hSw; go_simp; try with_reducible rfl)
    try simp only [yA, yB, yC, Act.put, yD, yE, yF]
    refine tkH 12 (v := ?v13) rfl (by kernel_rfl) (fun _ _ _ h => h) (Or.inl ⟨by rfl, ?hy13⟩) hHeld ?_
    case hy13 => (intro w hSw; clear hSw; go_simp; try with_reducible rfl)
    try simp only [yA, yB, yC, Act.put, yD, yE, yF]
    refine tkH 13 (v := ?v14) rfl (by kernel_rfl) (fun _ _ _ h => h) (Or.inl ⟨by rfl, ?hy14⟩) hHeld ?_
    case hy14 => (intro w hSw; clear hSw; go_simp; try with_reducible rfl)
    try simp only [yA, yB, yC, Act.put, yD, yE, yF]
    refine tkH 14 (v := ?v15) rfl (by kernel_rfl) (fun _ _ _ h => h) (Or.inl ⟨by rfl, ?hy15⟩) hHeld ?_
    case hy15 => (intro w hSw; clear hSw; go_simp; try with_reducible rfl)
    try simp only [yA, yB, yC, Act.put, yD, yE, yF]
    refine tkH 15 (v := ?v16) rfl (by kernel_rfl) (fun _ _ _ h => h) (Or.inl ⟨by rfl, ?hy16⟩) hHeld ?_
    case hy16 => (intro w hSw; have hc : w.cell? ⟨P, 0, none⟩ = some (.int .i64 wt) := (by rw [← ew.out]; exact (hV.below hSw).fb.cell 0 _ rfl); clear hSw; go_simp; try with_reducible rfl)
    try simp only [yA, yB, yC, Act.put, yD, yE, yF]
    refine wpAnyH_ready (rs := [16, 20]) (by kernel_rfl) (by simp) ?_
    refine AllReadyH.cons rfl (fun K hK => ?_) (AllReadyH.cons rfl (fun K hK => ?_) (AllReadyH.nil))
    ·have hcz := hHeld.size
     go_simp
     go_wp2_with (refine (pS _).mono ?_; rintro r u1 ⟨rfl, hb⟩)
     refine hK.out _ _ (hHeld.below hb) (fun hHeld => ?_)
     clear hK K hb
     refine tkH 17 (v := ?v17) rfl (by kernel_rfl) (fun _ _ _ h => h) (Or.inl ⟨by rfl, ?hy17⟩) hHeld ?_
     case hy17 => (intro w hSw; clear hSw; go_simp; try with_reducible rfl)
     try simp only [yA, yB, yC, Act.put, yD, yE, yF]
     refine tkH 18 (v := ?v18) rfl (by kernel_rfl) (fun _ _ _ h => h) (Or.inl ⟨by rfl, ?hy18⟩) hHeld ?_
     case hy18 => (intro w hSw; clear hSw; go_simp; try with_reducible rfl)
     try simp only [yA, yB, yC, Act.put, yD, yE, yF]
     refine tkH 19 (v := ?v19) rfl (by kernel_rfl) (fun _ _ _ h => h) (Or.inl ⟨by rfl, ?hy19⟩) hHeld ?_
     case hy19 => (intro w hSw; clear hSw; go_simp; try with_reducible rfl)
     try simp only [yA, yB, yC, Act.put, yD, yE, yF]
     refine wpAnyH_ready (rs := [20]) (by kernel_rfl) (by simp) ?_
     refine AllReadyH.cons rfl (fun K hK => ?_) (AllReadyH.nil)
     rw [if_pos (by rfl)]
     refine wp_alloc_any zeroCo rfl ?_
     intro yp u2 y0 hb yl yt
     have yg := Nat.le_trans hHeld.size yl
     refine hK.out _ _ (hHeld.below hb) (fun hHeld => ?_)
     clear hK K hb yl yt
     try simp only [yA, yB, yC, Act.put, yD, yE, yF]
     refine wpAnyH_ready (rs := [21]) (by kernel_rfl) (by simp) ?_
     refine AllReadyH.cons rfl (fun K hK => ?_) (AllReadyH.nil)
     rw [if_pos (by rfl)]
     refine wp_store_all 78 _ _ rfl (cells := (coc Z)) y0 rfl rfl sizeCo rfl (coc_one _) ?_
     intro u3 hn9 hk9
     replace y0 := hn9
     refine hK.out _ _ (below_kp hHeld hk9 yg) (fun hHeld => ?_)
     clear hK K hk9 hn9
     try simp only [yA, yB, yC, Act.put, yD, yE, yF]
     refine tkH 22 (v := ?v20) rfl (by kernel_rfl) (fun _ _ _ h => h) (Or.inl ⟨by rfl, ?hy20⟩) hHeld ?_
     case hy20 => (intro w hSw; clear hSw; go_simp; try with_reducible rfl)
     try simp only [yA, yB, yC, Act.put, yD, yE, yF]
     refine wpAnyH_done (by kernel_rfl) ?_ _
     go_wp2_with fail
     go_meet
     exact ⟨rfl, yp, rfl, yg, y0, hHeld⟩
    ·rw [if_pos (by rfl)]
     refine wp_alloc_any zeroCo rfl ?_
     intro yp u4 y0 hb yl yt
     have yg := Nat.le_trans hHeld.size yl
     refine hK.out _ _ (hHeld.below hb) (fun hHeld => ?_)
     clear hK K hb yl
     try simp only [yA, yB, yC, Act.put, yD, yE, yF]
     refine wpAnyH_ready (rs := [16]) (by kernel_rfl) (by simp) ?_
     refine AllReadyH.cons rfl (fun K hK => ?_) (AllReadyH.nil)
     have hcz := hHeld.size
     go_simp
     go_wp2_with (refine (pS _).mono ?_; rintro r u5 ⟨rfl, hb⟩)
     replace y0 := y0.below hb
     refine hK.out _ _ (hHeld.below hb) (fun hHeld => ?_)
     clear hK K hb
     refine tkH 17 (v := ?v21) rfl (by kernel_rfl) (fun _ _ _ h => h) (Or.inl ⟨by rfl, ?hy21⟩) hHeld ?_
     case hy21 => (intro w hSw; clear hSw; go_simp; try with_reducible rfl)
     try simp only [yA, yB, yC, Act.put, yD, yE, yF]
     refine tkH 18 (v := ?v22) rfl (by kernel_rfl) (fun _ _ _ h => h) (Or.inl ⟨by rfl, ?hy22⟩) hHeld ?_
     case hy22 => (intro w hSw; clear hSw; go_simp; try with_reducible rfl)
     try simp only [yA, yB, yC, Act.put, yD, yE, yF]
     refine tkH 19 (v := ?v23) rfl (by kernel_rfl) (fun _ _ _ h => h) (Or.inl ⟨by rfl, ?hy23⟩) hHeld ?_
     case hy23 => (intro w hSw; clear hSw; go_simp; try with_reducible rfl)
     try simp only [yA, yB, yC, Act.put, yD, yE, yF]
     refine wpAnyH_ready (rs := [21]) (by kernel_rfl) (by simp) ?_
     refine AllReadyH.cons rfl (fun K hK => ?_) (AllReadyH.nil)
     rw [if_pos (by rfl)]
     refine wp_store_all 78 _ _ rfl (cells := (coc Z)) y0 rfl rfl sizeCo rfl (coc_one _) ?_
     intro u6 hn9 hk9
     replace y0 := hn9
     refine hK.out _ _ (below_kp hHeld hk9 yg) (fun hHeld => ?_)
     clear hK K hk9 hn9
     try simp only [yA, yB, yC, Act.put, yD, yE, yF]
     refine tkH 22 (v := ?v24) rfl (by kernel_rfl) (fun _ _ _ h => h) (Or.inl ⟨by rfl, ?hy24⟩) hHeld ?_
     case hy24 => (intro w hSw; clear hSw; go_simp; try with_reducible rfl)
     try simp only [yA, yB, yC, Act.put, yD, yE, yF]
     refine wpAnyH_done (by kernel_rfl) ?_ _
     go_wp2_with fail
     go_meet
     exact ⟨rfl, yp, rfl, yg, y0, hHeld⟩
   case rest =>
    obtain ⟨rfl, y, rfl, yg, y0, hb⟩ := hcut
    rename World => w2
    have hU := hV.below hb
    have kU : Kp (wbs P g u ta) w w2 := (Kp.of_below hbV).trans (Kp.of_below hb)
    have hlt := hV.lt
    clear hV hbV hb
    cases sb with
    | false =>
     have e : X = S := hX.out.symm
     subst e
     go_wp2_with fail
     go_end0
     exact ⟨rfl, hU, kU⟩
    | true =>
     have e : X = ⟨S.wait, S.cs.set i (Z, []), S.up.set i true, S.ls, S.t⟩ := hX.out.symm
     subst e
     clear hX
     have hZn : Z.kn = 0 := by
      rw [← hZ.out]
      unfold startC
      split <;> rfl
     have hyP : y ≠ P := fun e => by have := hlt P (by simp [wbs]); omega
     have hyg : y ≠ g := fun e => by have := hlt g (by simp [wbs]); omega
     have hyu : y ≠ u := fun e => by have := hlt u (by simp [wbs]); omega
     have hb0P : Blk P (uac wt (.slice (some ⟨g, 0, none⟩) n cc) (.slice (some ⟨u, 0, none⟩) n uc) (.slice la S.ls.length lc) (.slice ta S.t.length tc)) 86 w2 := by
      have := hU.fb
      rw [hn, en.out, ew.out] at this
      exact this
     have hi : i < S.up.length := by rw [hn, en.out]; exact hin
     have hi' : i < S.cs.length := by rw [en.out]; exact hin
     obtain ⟨Cg, hCg, _⟩ := hU.fc
     obtain ⟨Cu, hCu, _⟩ := hU.fu
     have hzg := hU.fc.size1 hCg i hi'
     have hzu := hU.fu.size1 hCu i hi
     rw [Nat.mul_one] at hzu
     clear hlt hZ hb0 hx
     go_upto_region 3 with fail
     replace hU := hU.below (Below.refl _ _).drew
     replace kU := kU.trans (Kp.drew _ _)
     replace hCg := hCg.drew
     replace hCu := hCu.drew
     refine wp_region_held_drew (S := fun w' => Blk P (uac wt (.slice (some ⟨g, 0, none⟩) n cc) (.slice (some ⟨u, 0, none⟩) n uc) (.slice la S.ls.length lc) (.slice ta S.t.length tc)) 86 w' ∧ Blk y (coc Z) 78 w') (by kernel_rfl) ⟨hb0P.drew, y0.drew⟩ (fun hHeld => ?_)
     refine tkH 0 (v := ?v25) rfl (by kernel_rfl) (fun _ _ _ h => h) (Or.inl ⟨by rfl, ?hy25⟩) hHeld ?_
     case hy25 => (intro w hSw; clear hSw; go_simp; try with_reducible rfl)
     try simp only [yA, yB, yC, Act.put, yD, yE, yF]
     refine tkH 1 (v := ?v26) rfl (by kernel_rfl) (fun _ _ _ h => h) (Or.inl ⟨by rfl, ?hy26⟩) hHeld ?_
     case hy26 => (intro w hSw; clear hSw; go_simp; try with_reducible rfl)
     try simp only [yA, yB, yC, Act.put, yD, yE, yF]
     refine tkH 2 (v := ?v27) rfl (by kernel_rfl) (fun _ _ _ h => h) (Or.inl ⟨by rfl, ?hy27⟩) hHeld ?_
     case hy27 => (intro w hSw; clear hSw; go_simp; try with_reducible rfl)
     try simp only [yA, yB, yC, Act.put, yD, yE, yF]
     refine tkH 3 (v := ?v28) rfl (by kernel_rfl) (fun _ _ _ h => h) (Or.inl ⟨by rfl, ?hy28⟩) hHeld ?_
     case hy28 => (intro w hSw; clear hSw; go_simp; try with_reducible rfl)
     try simp only [yA, yB, yC, Act.put, yD, yE, yF]
     refine tkH 4 (v := ?v29) rfl (by kernel_rfl) (fun _ _ _ h => h) (Or.inl ⟨by rfl, ?hy29⟩) hHeld ?_
     case hy29 => (intro w hSw; have hc : w.cell? ⟨P, 1, none⟩ = some (.slice (some ⟨g, 0, none⟩) n cc) := hSw.1.cell 1 _ rfl; clear hSw; go_simp; try with_reducible rfl)
     try simp only [yA, yB, yC, Act.put, yD, yE, yF]
     refine tkH 5 (v := ?v30) rfl (by kernel_rfl) (fun _ _ _ h => h) (Or.inl ⟨by rfl, ?hy30⟩) hHeld ?_
     case hy30 => (intro w hSw; clear hSw; go_simp; try with_reducible rfl)
     try simp only [yA, yB, yC, Act.put, yD, yE, yF]
     refine tkH 6 (v := ?v31) rfl (by kernel_rfl) (fun _ _ _ h => h) (Or.inl ⟨by rfl, ?hy31⟩) hHeld ?_
     case hy31 => (intro w hSw; clear hSw; go_simp; try with_reducible rfl)
     try simp only [yA, yB, yC, Act.put, yD, yE, yF]
     refine tkH 7 (v := ?v32) rfl (by kernel_rfl) (fun _ _ _ h => h) (Or.inl ⟨by rfl, ?hy32⟩) hHeld ?_
     case hy32 => (intro w hSw; clear hSw; go_simp; try with_reducible rfl)
     try simp only [yA, yB, yC, Act.put, yD, yE, yF]
     refine tkH 8 (v := ?v33) rfl (by kernel_rfl) (fun _ _ _ h => h) (Or.inl ⟨by rfl, ?hy33⟩) hHeld ?_
     case hy33 => (intro w hSw; clear hSw; go_simp; try with_reducible rfl)
     try simp only [yA, yB, yC, Act.put, yD, yE, yF]
     refine tkH 9 (v := ?v34) rfl (by kernel_rfl) (fun _ _ _ h => h) (Or.inl ⟨by rfl, ?hy34⟩) hHeld ?_
     case hy34 => (intro w hSw; clear hSw; go_simp; try with_reducible rfl)
     try simp only [yA, yB, yC, Act.put, yD, yE, yF]
     refine tkH 10 (v := ?v35) rfl (by kernel_rfl) (fun _ _ _ h => h) (Or.inl ⟨by rfl, ?hy35⟩) hHeld ?_
     case hy35 => (intro w hSw; have hc : w.cell? ⟨P, 2, none⟩ = some (.slice (some ⟨u, 0, none⟩) n uc) := hSw.1.cell 2 _ rfl; clear hSw; go_simp; try with_reducible rfl)
     try simp only [yA, yB, yC, Act.put, yD, yE, yF]
     refine tkH 11 (v := ?v36) rfl (by kernel_rfl) (fun _ _ _ h => h) (Or.inl ⟨by rfl, ?hy36⟩) hHeld ?_
     case hy36 => (intro w hSw; clear hSw; go_simp; try with_reducible rfl)
     try simp only [yA, yB, yC, Act.put, yD, yE, yF]
     refine' tkH 12 (v := _) rfl (by kernel_rfl) (fun _ _ _ h => h) (yieldsIf_load_mid (by rfl) _ _ rfl y 0 rfl (col Z) _ ?hS37 Tryz.underlying78 rfl sizeCo) hHeld ?_
     case hS37 => exact fun w h => h.2.whole
     try simp only [yA, yB, yC, Act.put, yD, yE, yF]
     refine tkH 13 (v := ?v38) rfl (by kernel_rfl) (fun _ _ _ h => h) (Or.inl ⟨by rfl, ?hy38⟩) hHeld ?_
     case hy38 => (intro w hSw; clear hSw; go_simp; try with_reducible rfl)
     try simp only [yA, yB, yC, Act.put, yD, yE, yF]
     refine wpAnyH_ready (rs := [14]) (by kernel_rfl) (by simp) ?_
     refine AllReadyH.cons rfl (fun K hK => ?_) (AllReadyH.nil)
     rw [if_pos (by rfl)]
     refine wp_store_part 78 _ _ rfl (off := i * 189) (cells := coc Z) hCg rfl rfl sizeCo hzg (coc_one _) ?_
     intro u1 hn9 hk9
     replace hU := hU.setCore i Z [] hk9 (hU.fc.put cov_length (by decide) i hi' (Z, []) hCg hn9) hZn (.inl rfl) (fun b _ => .inl rfl)
     replace kU := kU.trans (hk9.mono (by simp [wbs]))
     replace hCu := hCu.kp1 hk9 (fun e => hU.n1.2.2 e.symm)
     refine hK.out _ _ ⟨hHeld.1.kp1 hk9 hU.n1.1, hHeld.2.kp1 hk9 hyg⟩ (fun hHeld => ?_)
     clear hK K hk9 hn9 hCg
     try simp only [yA, yB, yC, Act.put, yD, yE, yF]
     refine tkH 15 (v := ?v39) rfl (by kernel_rfl) (fun _ _ _ h => h) (Or.inl ⟨by rfl, ?hy39⟩) hHeld ?_
     case hy39 => (intro w hSw; clear hSw; go_simp; try with_reducible rfl)
     try simp only [yA, yB, yC, Act.put, yD, yE, yF]
     refine wpAnyH_ready (rs := [16]) (by kernel_rfl) (by simp) ?_
     refine AllReadyH.cons rfl (fun K hK => ?_) (AllReadyH.nil)
     rw [if_pos (by rfl)]
     refine wp_store_one 4 _ _ rfl (off := i) (.bool true) hCu rfl rfl rfl rfl (by kernel_rfl) hzu ?_
     intro u2 hn9 hk9
     rw [← bvl_put] at hn9
     replace hU := hU.setUp i true hk9 (hU.fu.put bvl_length (by decide) i hi true hCu hn9)
     replace kU := kU.trans (hk9.mono (by simp [wbs]))
     refine hK.out _ _ ⟨hHeld.1.kp1 hk9 hU.n1.2.1, hHeld.2.kp1 hk9 hyu⟩ (fun hHeld => ?_)
     clear hK K hk9 hn9 hCu
     try simp only [yA, yB, yC, Act.put, yD, yE, yF]
     refine wpAnyH_done (by kernel_rfl) ?_ _
     go_wp2_with fail
     go_end0
     exact ⟨rfl, hU, kU⟩
end Go.Proofs.YthgfpdidilolgaaGreat
