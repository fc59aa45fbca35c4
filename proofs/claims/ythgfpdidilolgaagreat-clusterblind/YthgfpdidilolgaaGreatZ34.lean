/-
  Of the texts beneath these laws, in their order: ClPg, ClSt, CbU.
  Each theorem says its own conditions.
-/
import Derived.Test.YthgfpdidilolgaaGreatZ31
import Derived.Test.YthgfpdidilolgaaGreatZ32
import Derived.Test.YthgfpdidilolgaaGreatZ33
namespace Go.Proofs.YthgfpdidilolgaaGreat
set_option maxRecDepth 10000
set_option linter.unusedSimpArgs false
open Go.RowKit Go.Sort
set_option linter.unusedVariables false
def KpL (cs CS : List (Co × List Kt)) : Prop := CS.length = cs.length ∧ ∀ (i : Nat) (x : Co × List Kt), CS[i]? = some x → ∃ (y : Co × List Kt) (a : Option Addr) (k : Nat), cs[i]? = some y ∧ x = (y.1.kp a y.2.length k, y.2)
def BgnL (wt : Int) (cs : List (Co × List Kt)) (up : List Bool) (ls : List Le) (B : Nat) (e : Ending) (w' : World) : Prop :=
 ∃ CS g cc u uc la lc, e = .returned (.agg (uac wt (.slice (some ⟨g, 0, none⟩) CS.length cc) (.slice (some ⟨u, 0, none⟩) up.length uc) (.slice la ls.length lc) (.slice none 0 0))) ∧ KpL cs CS ∧ (∀ x ∈ CS, x.1.kn = x.2.length ∧ Lg Kt.vals 38 53 (g + 1) x.1.ka x.1.kc x.2 w' ∧ ∀ b ∈ blkOf x.1.ka, b < u) ∧ B ≤ g ∧ g < u ∧ Ow cov 189 78 g cc CS w' ∧ Ow bvl 1 4 u uc up w' ∧ Lg Le.vals 4 97 (u + 1) la lc ls w'
theorem kept_cellL (x : Co × List Kt) (a : Option Addr) (k : Nat) : cov (x.1.kp a x.2.length k, x.2) = (cov x).set 39 (.slice a x.2.length k) := by kernel_rfl
def KmL (g j : Nat) (CS : List (Co × List Kt)) (w : World) : Prop := ∀ (i : Nat) (x : Co × List Kt), i < j → CS[i]? = some x → x.1.kn = x.2.length ∧ Lg Kt.vals 38 53 (g + 1) x.1.ka x.1.kc x.2 w
theorem KmL.below {g j : Nat} {CS : List (Co × List Kt)} {w w' : World} (h : KmL g j CS w) (hb : Below w.heap.size w w') : KmL g j CS w' := fun i x hi hx => ⟨(h i x hi hx).1, (h i x hi hx).2.below hb⟩
theorem KmL.kp1 {g j b : Nat} {CS : List (Co × List Kt)} {w w' : World} (h : KmL g j CS w) (hk : Kp [b] w w') (hb : b ≤ g) : KmL g j CS w' := fun i x hi hx => ⟨(h i x hi hx).1, (h i x hi hx).2.kp hk (by simp; omega)⟩
theorem KmL.set {g j : Nat} {CS : List (Co × List Kt)} {w : World} (h : KmL g j CS w) (hj : j < CS.length) {y : Co × List Kt} {a : Option Addr} {k : Nat} (hL : Lg Kt.vals 38 53 (g + 1) a k y.2 w) : KmL g (j + 1) (CS.set j (y.1.kp a y.2.length k, y.2)) w := fun i x hi hx => by
 by_cases e : j = i
 ·subst e
  rw [List.getElem?_set_self hj] at hx
  cases hx
  exact ⟨rfl, hL⟩
 ·rw [List.getElem?_set_ne e] at hx
  exact h i x (by omega) hx
set_option maxHeartbeats 8000000 in
theorem kbegin_ok (wt : Int) (cs : List (Co × List Kt)) (up : List Bool) (ls : List Le) (ca ua : Addr) (la : Option Addr) (cc0 uc0 lc0 : Nat) (w : World) (hc : Li cov 0 (some ca) cs w) (hu : Li bvl 0 (some ua) up w) (hl : Li Le.vals 0 la ls w)
  (hn8 : cs.length ≤ 8) (hu8 : up.length ≤ 8) (hl8 : ls.length ≤ 4096) (he : ∀ x ∈ cs, x.1.kn = x.2.length ∧ x.2.length * 352 ≤ 140737488355328 ∧ Li Kt.vals 0 x.1.ka x.2 w) :
  Calls Tryz.prog 29 #[.agg (clc wt (.slice (some ca) cs.length cc0) (.slice (some ua) up.length uc0) (.slice la ls.length lc0))] w fun e w' => BgnL wt cs up ls w.heap.size e w' ∧ Below w.heap.size w w' := by
 have pC := fun u' hu => cclone_ok cs ca cc0 (by omega) u' hu
 have pU := fun u' hu => bclone_ok up ua uc0 (by omega) u' hu
 have pL := fun u' hu => lclone_ok ls la lc0 (by omega) u' hu
 obtain ⟨n, en⟩ : ∃ n, Hid (cs.length = n) := ⟨_, rfl⟩
 obtain ⟨nu, enu⟩ : ∃ n, Hid (up.length = n) := ⟨_, rfl⟩
 obtain ⟨nl, enl⟩ : ∃ n, Hid (ls.length = n) := ⟨_, rfl⟩
 obtain ⟨vU, eU⟩ : ∃ v, Hid (Value.slice (some ua) nu uc0 = v) := ⟨_, rfl⟩
 obtain ⟨vL, eL⟩ : ∃ v, Hid (Value.slice la nl lc0 = v) := ⟨_, rfl⟩
 rw [en.out] at pC hn8
 rw [enu.out] at pU
 rw [enl.out] at pL
 rw [en.out, enu.out, enl.out, eU.out, eL.out]
 rw [eU.out] at pU
 rw [eL.out] at pL
 obtain ⟨b1, b2, hB⟩ := two_blk (T0 := 29) (T1 := 86) (C0 := clc wt (.slice (some ca) n cc0) vU vL) (C1 := uac 0 (.slice none 0 0) (.slice none 0 0) (.slice none 0 0) (.slice none 0 0)) (w := w) rfl
 go_enter Tryz.func29, Tryz.ntmps29
 go_upto_region 1 with (go_big_may; refine alloc_zero zeroUa rfl rfl ?_)
 try simp only [Act.put, List.setIfInBounds_toArray, List.set_cons_zero, List.set_cons_succ]
 try simp only [alloc_size]
 generalize (w.alloc (Obj.cells (clc wt (.slice (some ca) n cc0) vU vL) 29)).alloc (Obj.cells (uac 0 (.slice none 0 0) (.slice none 0 0) (.slice none 0 0) (.slice none 0 0)) 86) = W at b1 b2 hB ⊢
 have c1 : W.cell? ⟨w.heap.size, 1, none⟩ = some (.slice (some ca) n cc0) := b1.cell 1 _ rfl
 have hq1 := b2.lt
 go_wp2_with fail
 refine (pC _ (hc.below hB)).mono ?_
 rintro r w1 ⟨⟨g, cc, rfl, hgB, hO⟩, hb⟩
 replace b1 := b1.below hb
 replace b2 := b2.below hb
 have hq1 : w.heap.size + 1 < W.heap.size := hq1
 rw [en.out]
 replace hB := hB.trans (hb.mono hB.size)
 clear pC c1 hb
 go_wp2_with (refine store_one rfl 25 _ _ rfl (off := 1) (.slice (some ⟨g, 0, none⟩) n cc) b1 rfl rfl rfl rfl (by kernel_rfl) (show 1 + 1 ≤ 4 by decide) ?_; intro w2 b3 k3; rw [clc1] at b3; have c1 : w2.cell? ⟨w.heap.size, 1, none⟩ = some (.slice (some ⟨g, 0, none⟩) n cc) := b3.cell 1 _ rfl)
 replace hO := hO.kp k3 (by simp; omega)
 replace b2 := b2.kp1 k3 (by omega)
 replace hB := below_kp hB k3 (Nat.le_refl _)
 clear c1 b1 k3
 have hK0 : KpL cs cs := ⟨rfl, fun i x hx => ⟨x, x.1.ka, x.1.kc, hx, by rw [kp_self x.1 x.2.length (he x (List.mem_of_getElem? hx)).1]⟩⟩
 have hKM0 : KmL g 0 cs w2 := fun i x hi => by omega
 go_loopw [11] (fun iv wr => ∃ (j : Nat) (CS : List (Co × List Kt)), j ≤ n ∧ iv = .int .i64 j ∧ KpL cs CS ∧ CS.length = n ∧ (∀ i, j ≤ i → CS[i]? = cs[i]?) ∧ KmL g j CS wr ∧ Ow cov 189 78 g cc CS wr ∧ Blk w.heap.size (clc wt (.slice (some ⟨g, 0, none⟩) n cc) vU vL) 29 wr ∧ Blk (w.heap.size + 1) (uac 0 (.slice none 0 0) (.slice none 0 0) (.slice none 0 0) (.slice none 0 0)) 86 wr ∧ Below w.heap.size w wr) (fun iv _ => n - (intOf iv).toNat)
 case atStart => exact ⟨0, cs, by omega, rfl, hK0, en.out, fun _ _ => rfl, hKM0, hO, b3, b2, hB⟩
 case round =>
  clear hK0 hKM0 hO b3 b2 hB
  obtain ⟨j, CS, hj, rfl, hK, hl9, hr9, hKM, hO, b1, b2, hB⟩ := hrel
  by_cases hjn : j < n
  ·have j0 : (j : Int) < (n : Int) := by omega
   have j1 : (0 : Int) ≤ (j : Int) := by omega
   have hjl : j < CS.length := by omega
   obtain ⟨y, hy⟩ : ∃ y, CS[j]? = some y := ⟨_, List.getElem?_eq_getElem hjl⟩
   have hy2 : cs[j]? = some y := by rw [← hr9 j (Nat.le_refl _)]; exact hy
   obtain ⟨k1, k2, hyl⟩ := he y (List.mem_of_getElem? hy2)
   have pK := clone_ok y.2 y.1.ka y.1.kc k2
   go_upto_region 5 with fail
   replace hO := hO.below (Below.refl _ _).drew
   replace hKM := hKM.below (Below.refl _ _).drew
   have hk39 := hO.at cov_length j y hy 39 (.slice y.1.ka y.1.kn y.1.kc) rfl
   rw [k1] at hk39
   replace b2 := b2.drew
   replace hB := hB.drew
   clear hy2 k1 k2
   refine wp_region_held_drew (S := fun w' => Blk w.heap.size (clc wt (.slice (some ⟨g, 0, none⟩) n cc) vU vL) 29 w') (by kernel_rfl) b1.drew (fun hHeld => ?_)
   refine tkQ 0 hHeld ?_
   try simp only [yy]
   refine tkH 1 (v := ?v2) rfl (by kernel_rfl) (fun _ _ _ h => h) (Or.inl ⟨by rfl, ?hy2⟩) hHeld ?_
   case hy2 => (intro w hSw; have hc := hSw.cell 1 (.slice (some ⟨g, 0, none⟩) n cc) rfl; clear hSw; go_simp; try with_reducible rfl)
   try simp only [yy]
   refine tkQ 2 hHeld ?_
   try simp only [yy]
   refine tkQ 3 hHeld ?_
   try simp only [yy]
   refine tkH 4 (v := ?v5) rfl (by kernel_rfl) (fun _ _ _ h => h) (Or.inl ⟨by rfl, ?hy5⟩) hHeld ?_
   case hy5 => (intro w hSw; have hc := hSw.cell 1 (.slice (some ⟨g, 0, none⟩) n cc) rfl; clear hSw; go_simp; try with_reducible rfl)
   try simp only [yy]
   refine tkQ 5 hHeld ?_
   try simp only [yy]
   refine tkQ 6 hHeld ?_
   try simp only [yy]
   refine tkQ 7 hHeld ?_
   try simp only [yy]
   refine rd1 8 (fun K hK => ?_)
   rw [if_pos (by rfl)]
   refine wp_load_cell 73 _ rfl (.slice y.1.ka y.2.length y.1.kc) rfl hk39 Tryz.underlying73 rfl ?_
   refine hK.out _ _ hHeld (fun hHeld => ?_)
   clear hK K 
   try simp only [yy]
   refine rd1 9 (fun K hK => ?_)
   go_simp
   go_wp2_with (refine (pK _ (hyl.below hB)).mono ?_; rintro r u2 ⟨⟨a9, k9, rfl, hL9⟩, hb⟩)
   replace hL9 := hL9.mono (Nat.succ_le_of_lt hO.lt)
   replace hKM := hKM.below hb
   replace hO := hO.below hb
   replace b2 := b2.below hb
   replace hB := hB.trans (hb.mono hB.size)
   have hO1 := hO
   obtain ⟨Cg, hCg, _⟩ := hO1
   refine hK.out _ _ (hHeld.below hb) (fun hHeld => ?_)
   clear hK K hb
   refine tkQ 10 hHeld ?_
   try simp only [yy]
   refine tkQ 11 hHeld ?_
   try simp only [yy]
   refine rd1 12 (fun K hK => ?_)
   rw [if_pos (by rfl)]
   refine wp_store_one 73 _ _ rfl (off := j * 189 + 39) (.slice a9 y.2.length k9) hCg rfl rfl rfl rfl (by kernel_rfl) (by have := hO.size1 hCg j (by omega); omega) ?_
   intro u3 hn9 hk9
   refine hK.out _ _ (hHeld.kp1 hk9 (by omega)) (fun hHeld => ?_)
   clear hK K 
   try simp only [yy]
   refine wpAnyH_done (by kernel_rfl) ?_ _
   have hO' := hO.cell1 cov_length (by decide) j y hy (y.1.kp a9 y.2.length k9, y.2) (r := 39) (v := .slice a9 y.2.length k9) (kept_cellL y a9 k9) (by decide) hCg hn9
   replace b2 := b2.kp1 hk9 (by omega)
   replace hB := below_kp hB hk9 (by omega)
   have hK' : KpL cs (CS.set j (y.1.kp a9 y.2.length k9, y.2)) := ⟨by rw [List.length_set]; exact hK.1, fun i x hx => by
    by_cases e : j = i
    ·subst e
     rw [List.getElem?_set_self hjl] at hx
     cases hx
     obtain ⟨z, a, k, h1, h2⟩ := hK.2 j y hy
     rw [h2]
     exact ⟨z, a9, k9, h1, rfl⟩
    ·rw [List.getElem?_set_ne e] at hx
     exact hK.2 i x hx⟩
   have hKM' := (hKM.kp1 hk9 (Nat.le_refl _)).set hjl (hL9.kp hk9 (by simp))
   clear hK hO hCg hn9 hk9 hKM hL9
   go_wp2_with fail
   exact ⟨⟨j + 1, _, by omega, by go_num, hK', by rw [List.length_set]; exact hl9, fun i hi => by rw [List.getElem?_set_ne (by omega)]; exact hr9 i (by omega), hKM', hO', hHeld, b2, hB⟩, by simp [intOf]; omega⟩
  ·obtain rfl : j = n := by omega
   clear hr9
   have c2 : wr.cell? ⟨w.heap.size, 2, none⟩ = some vU := b1.cell 2 _ rfl
   go_wp2_with fail
   refine (pU _ (hu.below hB)).mono ?_
   rintro r w3 ⟨⟨u, uc, rfl, huB, hO2⟩, hb⟩
   replace b1 := b1.below hb
   replace b2 := b2.below hb
   have hgu := Nat.lt_of_lt_of_le hO.lt huB
   have hKu : ∀ x ∈ CS, ∀ b ∈ blkOf x.1.ka, b < u := fun x hx b hb => by
    obtain ⟨i, hi⟩ := List.getElem?_of_mem hx
    exact Nat.lt_of_lt_of_le ((hKM i x (by rw [← hl9]; exact (List.getElem?_eq_some_iff.1 hi).1) hi).2.in b hb).2 huB
   replace hKM := hKM.below hb
   replace hO := hO.below hb
   replace hB := hB.trans (hb.mono hB.size)
   rw [enu.out]
   clear pU c2 hb
   go_wp2_with (refine store_one rfl 26 _ _ rfl (off := 2) (.slice (some ⟨u, 0, none⟩) nu uc) b1 rfl rfl rfl rfl (by kernel_rfl) (show 2 + 1 ≤ 4 by decide) ?_; intro w4 b4 k4; rw [clc2] at b4; have c3 : w4.cell? ⟨w.heap.size, 3, none⟩ = some vL := b4.cell 3 _ rfl)
   replace hO := hO.kp k4 (by simp; omega)
   replace hO2 := hO2.kp k4 (by simp; omega)
   replace hKM := hKM.kp1 k4 (by omega)
   replace b2 := b2.kp1 k4 (by omega)
   replace hB := below_kp hB k4 (Nat.le_refl _)
   have hul := hO2.lt
   refine (pL _ (hl.below hB)).mono ?_
   rintro r w5 ⟨⟨ma, mc, rfl, hM⟩, hb⟩
   replace b4 := b4.below hb
   replace b2 := b2.below hb
   replace hO := hO.below hb
   replace hO2 := hO2.below hb
   replace hKM := hKM.below hb
   replace hB := hB.trans (hb.mono hB.size)
   rw [enl.out]
   clear pL c3 b1
   go_wp2_with (first | (refine store_one rfl 27 _ _ rfl (off := 3) (.slice ma nl mc) b4 rfl rfl rfl rfl (by kernel_rfl) (show 3 + 1 ≤ 4 by decide) ?_; intro w6 b6 k6; rw [clc3] at b6; have e2 := b2.kp1 k6 (by omega)) | refine load_blk rfl 29 _ rfl b6 rfl Tryz.underlying29 rfl sizeCl ?_ | (refine build_as rfl 86 #[(0, .tmp 35)] rfl (C := uac wt (.slice (some ⟨g, 0, none⟩) j cc) (.slice (some ⟨u, 0, none⟩) nu uc) (.slice ma nl mc) (.slice none 0 0)) ?_ ?_; kernel_rfl) | (refine store_part rfl 86 _ _ rfl (off := 0) (cells := uac wt (.slice (some ⟨g, 0, none⟩) j cc) (.slice (some ⟨u, 0, none⟩) nu uc) (.slice ma nl mc) (.slice none 0 0)) e2 rfl rfl sizeUa (Nat.le_refl _) (uac_one _ _ _ _ _ _ _ _ _ _ _ _ _) ?_; intro w7 b7 k7; rw [putAt_all _ _ (by rfl)] at b7))
   have hBf := below_kp (below_kp hB k6 (Nat.le_refl _)) k7 (Nat.le_succ _)
   exact bodyPost_ret (w := w7) (v := .agg (uac wt (.slice (some ⟨g, 0, none⟩) j cc) (.slice (some ⟨u, 0, none⟩) nu uc) (.slice ma nl mc) (.slice none 0 0))) (ret_one rfl rfl b7 Tryz.underlying86 rfl sizeUa) rfl ⟨⟨CS, g, cc, u, uc, ma, mc, by rw [hl9, enu.out, enl.out], hK, fun x hx => by
    obtain ⟨i, hi⟩ := List.getElem?_of_mem hx
    have := ((hKM.kp1 k6 (by omega)).kp1 k7 (by omega)) i x (by rw [← hl9]; exact (List.getElem?_eq_some_iff.1 hi).1) hi
    exact ⟨this.1, this.2, hKu x hx⟩, by omega, hgu, (hO.kp k6 (by simp; omega)).kp k7 (by simp; omega), (hO2.kp k6 (by simp; omega)).kp k7 (by simp; omega), ((hM.kp k6 (by simp; omega)).kp k7 (by simp; omega)).mono (by omega)⟩, hBf⟩
end Go.Proofs.YthgfpdidilolgaaGreat
namespace Go.Proofs.YthgfpdidilolgaaGreat
set_option maxRecDepth 10000
set_option linter.unusedSimpArgs false
open Go.RowKit Go.Sort
set_option linter.unusedVariables false
structure Clv (S : Cs) (ca ua : Addr) (la : Option Addr) (w : World) : Prop where
 c : Li cov 0 (some ca) S.cs w
 u : Li bvl 0 (some ua) S.up w
 l : Li Le.vals 0 la S.ls w
 k : ∀ x ∈ S.cs, x.1.kn = x.2.length ∧ Li Kt.vals 0 x.1.ka x.2 w
theorem Clv.below {S : Cs} {ca ua : Addr} {la : Option Addr} {w w' : World} (h : Clv S ca ua la w) (hb : Below w.heap.size w w') : Clv S ca ua la w' := ⟨h.c.below hb, h.u.below hb, h.l.below hb, fun x hx => ⟨(h.k x hx).1, (h.k x hx).2.below hb⟩⟩
def StpE (Q : Pw → Prop) (wt : Int) (cs : List (Co × List Kt)) (up : List Bool) (ls : List Le) (d : De) (B : Nat) (e : Ending) (w' : World) : Prop :=
 ∃ CS S' g cc u uc la lc ta tc, e = .returned (.tuple #[.agg (clc S'.wait (.slice (some ⟨g, 0, none⟩) S'.cs.length cc) (.slice (some ⟨u, 0, none⟩) S'.up.length uc) (.slice la S'.ls.length lc)), .slice ta S'.t.length tc]) ∧ KpL cs CS ∧ Nxt Q ⟨wt, CS, up, ls, []⟩ d S' ∧ S'.t.length ≤ tc ∧ Clv S' ⟨g, 0, none⟩ ⟨u, 0, none⟩ la w' ∧ Li Td.vals 0 ta S'.t w' ∧ B ≤ g ∧ B ≤ u ∧ (∀ x ∈ S'.cs, Li Kt.vals B x.1.ka x.2 w')
theorem off_nilc {α : Type} {f : α → List Value} {k : Nat} (hk : ∀ x, (f x).length = k) {a : Option Addr} {L : List α} {w : World} {z : Nat} (h : Li f 0 a L w) (hz : Blk z (clc 0 (.slice none 0 0) (.slice none 0 0) (.slice none 0 0)) 29 w) (r : Nat) (hr : 0 < r) (hf : ∀ x, ∃ v, (f x)[r]? = some v ∧ (∀ a n c, v ≠ .slice a n c)) : Off a L z := by
 rcases h with h | ⟨b, o, e, _, _, hr2⟩
 ·exact .inl h
 ·cases L with
  | nil => exact .inl rfl
  | cons x L =>
   refine .inr fun hm => ?_
   rw [e] at hm
   simp [blkOf] at hm
   subst hm
   obtain ⟨v, hv, hne⟩ := hf x
   have hlt : r < (f x).length := (List.getElem?_eq_some_iff.1 hv).1
   have hc := hr2 r v (by rw [flat_cons, List.getElem?_append_left hlt]; exact hv)
   have hc2 : (clc 0 (.slice none 0 0) (.slice none 0 0) (.slice none 0 0))[o + r]? = some v := by
    have e2 : w.cell? ⟨z, o + r, none⟩ = (clc 0 (.slice none 0 0) (.slice none 0 0) (.slice none 0 0))[o + r]? := by
     have hz' : w.heap[z]? = some (Obj.cells (clc 0 (.slice none 0 0) (.slice none 0 0) (.slice none 0 0)) 29) := hz
     simp [World.cell?, hz']
    rw [← e2]
    exact hc
   obtain ⟨q, hq⟩ : ∃ q, o + r = q + 1 := ⟨o + r - 1, by omega⟩
   rw [hq] at hc2
   match q, hc2 with
   | 0, hc2 => injection hc2 with hc2; exact hne _ _ _ hc2.symm
   | 1, hc2 => injection hc2 with hc2; exact hne _ _ _ hc2.symm
   | 2, hc2 => injection hc2 with hc2; exact hne _ _ _ hc2.symm
   | q + 3, hc2 => cases hc2
set_option maxHeartbeats 8000000 in
theorem cstep_ok {Q : Pw → Prop} (wt : Int) (cs : List (Co × List Kt)) (up : List Bool) (ls : List Le) (ca ua : Addr) (la0 : Option Addr) (cc0 uc0 lc0 : Nat) (d : De) (w : World) (hC : Clv ⟨wt, cs, up, ls, []⟩ ca ua la0 w)
  (hn8 : cs.length ≤ 8) (hu8 : up.length ≤ 8) (hl8 : ls.length ≤ 4096) {m : Nat} (hG : ∀ CS, KpL cs CS → Gd m ⟨wt, CS, up, ls, []⟩) (hm4 : m + 4 ≤ 1000000) (hd : d.ok) (hT : ∀ l ∈ ls, Tx Q l.t) (hs : ∀ l ∈ ls, l.small) :
  Calls Tryz.prog 13 #[.agg (clc wt (.slice (some ca) cs.length cc0) (.slice (some ua) up.length uc0) (.slice la0 ls.length lc0)), .agg d.arr] w fun e w' => StpE Q wt cs up ls d w.heap.size e w' ∧ Below w.heap.size w w' := by
 have hkz : ∀ x ∈ cs, x.2.length * 352 ≤ 140737488355328 := fun x hx => by
  obtain ⟨i, hi⟩ := List.getElem?_of_mem hx
  have := ((hG cs ⟨rfl, fun i x hx => ⟨x, x.1.ka, x.1.kc, hx, by rw [kp_self x.1 x.2.length (hC.k x (List.mem_of_getElem? hx)).1]⟩⟩).c i x hi).2.2.2
  omega
 have pB := fun u' hb => kbegin_ok wt cs up ls ca ua la0 cc0 uc0 lc0 u' (hC.c.below hb) (hC.u.below hb) (hC.l.below hb) hn8 hu8 hl8 (fun x hx => ⟨(hC.k x hx).1, hkz x hx, (hC.k x hx).2.below hb⟩)
 obtain ⟨v, ev⟩ : ∃ v, Hid (clc wt (.slice (some ca) cs.length cc0) (.slice (some ua) up.length uc0) (.slice la0 ls.length lc0) = v) := ⟨_, rfl⟩
 have hv1 : v.size = 4 := by rw [← ev.out]; rfl
 have hv2 : (Tryz.prog.info? 29).map (·.size) = some v.size := by rw [hv1]; exact sizeCl
 rw [ev.out] at pB ⊢
 obtain ⟨b2, b3, b4, hB⟩ := three_blk (T0 := 29) (T1 := 45) (T2 := 29) (C0 := v) (C1 := d.arr) (C2 := (clc 0 (.slice none 0 0) (.slice none 0 0) (.slice none 0 0))) (w := w) rfl
 clear ev hv1
 go_enter Tryz.func13, Tryz.ntmps13
 go_upto_region 1 with (go_big_may; refine alloc_zero zeroCl rfl rfl ?_)
 try simp only [Act.put, List.setIfInBounds_toArray, List.set_cons_zero, List.set_cons_succ]
 try simp only [alloc_size]
 generalize ((w.alloc (Obj.cells v 29)).alloc (Obj.cells d.arr 45)).alloc (Obj.cells (clc 0 (.slice none 0 0) (.slice none 0 0) (.slice none 0 0)) 29) = W at b2 b3 b4 hB ⊢
 have hW := b4.lt
 go_wp2_with (refine load_blk rfl 29 _ rfl b2 rfl Tryz.underlying29 rfl hv2 ?_)
 refine (pB _ hB).mono ?_
 rintro r w1 ⟨⟨CS, g, cc, u, uc, la, lc, rfl, hK, hKM, hgB, hgu, hO, hO2, hM⟩, hb⟩
 replace b3 := b3.below hb
 replace b4 := b4.below hb
 replace hB := hB.trans (hb.mono hB.size)
 have hgl := hO.lt
 have hul := hO2.lt
 have hPb := blk_new w1 (uac wt (.slice (some ⟨g, 0, none⟩) CS.length cc) (.slice (some ⟨u, 0, none⟩) up.length uc) (.slice la ls.length lc) (.slice none 0 0)) 86
 have hb2 := below_box w1 (.cells (uac wt (.slice (some ⟨g, 0, none⟩) CS.length cc) (.slice (some ⟨u, 0, none⟩) up.length uc) (.slice la ls.length lc) (.slice none 0 0)) 86)
 obtain ⟨P, eP⟩ : ∃ P, Hid (w1.heap.size = P) := ⟨_, rfl⟩
 rw [eP.out] at hPb
 have hU : Uc P ⟨wt, CS, up, ls, []⟩ g cc u uc la lc none 0 (w1.alloc (.cells (uac wt (.slice (some ⟨g, 0, none⟩) CS.length cc) (.slice (some ⟨u, 0, none⟩) up.length uc) (.slice la ls.length lc) (.slice none 0 0)) 86)) := by
  have hlo : ∀ b, b ≤ u ∨ w1.heap.size ≤ b → Off la ls b := fun b hb => by
   rcases hb with e | e
   ·exact Off.lg hM b (.inl (by omega))
   ·exact Off.lg hM b (.inr e)
  refine ⟨hPb, hO.below hb2, hO2.below hb2, (hM.li.mono (Nat.zero_le _)).below hb2, ⟨hM.cap, hM.mx⟩, Lg.none _ _ _, fun x hx => ⟨(hKM x hx).1, (hKM x hx).2.1.li.below hb2, fun b hb => ?_⟩, fun b hb => ?_, ⟨?_, ?_, by omega⟩, by simp [blkOf]⟩
  ·simp only [wbs, blkOf, List.mem_cons, Option.toList_none, List.map_nil, List.not_mem_nil, or_false] at hb
   rcases hb with rfl | rfl | rfl
   ·exact Off.lg (hKM x hx).2.1 _ (.inr (by rw [eP.out]; exact Nat.le_refl _))
   ·exact Off.lg (hKM x hx).2.1 _ (.inl (by omega))
   ·exact .inr fun hm => Nat.lt_irrefl _ ((hKM x hx).2.2 _ hm)
  ·simp only [wbs, blkOf, List.mem_cons, Option.toList_none, List.map_nil, List.not_mem_nil, or_false] at hb
   rcases hb with rfl | rfl | rfl
   ·exact hlo _ (.inr (by rw [eP.out]; exact Nat.le_refl _))
   ·exact hlo _ (.inl (by omega))
   ·exact hlo _ (.inl (Nat.le_refl _))
  ·have := eP.out; omega
  ·have := eP.out; omega
 go_upto_region 2 with (go_big_may; first | refine alloc_zero zeroUa rfl rfl ?_ | refine store_new rfl 86 _ _ rfl (cells := (uac wt (.slice (some ⟨g, 0, none⟩) CS.length cc) (.slice (some ⟨u, 0, none⟩) up.length uc) (.slice la ls.length lc) (.slice none 0 0))) rfl rfl sizeUa rfl (uac_one _ _ _ _ _ _ _ _ _ _ _ _ _) ?_)
 try simp only [Act.put, List.setIfInBounds_toArray, List.set_cons_zero, List.set_cons_succ]
 rw [eP.out]
 generalize w1.alloc (Obj.cells (uac wt (.slice (some ⟨g, 0, none⟩) CS.length cc) (.slice (some ⟨u, 0, none⟩) up.length uc) (.slice la ls.length lc) (.slice none 0 0)) 86) = V at hU hb2 ⊢
 replace b3 := b3.below hb2
 replace b4 := b4.below hb2
 replace hB := hB.trans (hb2.mono hB.size)
 have hPq : w.heap.size + 1 + 1 < P := by have := eP.out; omega
 have hW0 : ∀ b ∈ wbs P g u none, w.heap.size + 3 ≤ b := fun b hb => by
  simp only [wbs, blkOf, List.mem_cons, Option.toList_none, List.map_nil, List.not_mem_nil, or_false] at hb
  omega
 have HK : Hid (KpL cs CS) := hK
 have pD := do_ok (Q := Q) hU (hG CS hK) hm4 d hd.1 hd.2.1 hd.2.2 hT hs
 clear hPb hb2 hO hO2 hM hKM hgl hul hb pB b2 eP hK hG hU
 go_wp2_with (refine load_blk rfl 45 _ rfl b3 rfl Tryz.underlying45 rfl sizeDe ?_)
 refine pD.mono ?_
 rintro r w2 ⟨rfl, S', la2, lc2, ta, tc, hN, hU, hk, hta⟩
 replace hN : Hid (Nxt Q ⟨wt, CS, up, ls, []⟩ d S') := hN
 replace b4 := b4.kp hk (fun hm => by have := hW0 _ hm; omega)
 replace hB := hB.trans (hk.below (fun b hb => by have := hW0 b hb; omega) hB.size)
 clear pD b3 hk
 obtain ⟨n1, e1⟩ : ∃ n, Hid (S'.cs.length = n) := ⟨_, rfl⟩
 obtain ⟨n2, e2⟩ : ∃ n, Hid (S'.up.length = n) := ⟨_, rfl⟩
 obtain ⟨n3, e3⟩ : ∃ n, Hid (S'.ls.length = n) := ⟨_, rfl⟩
 obtain ⟨n4, e4⟩ : ∃ n, Hid (S'.t.length = n) := ⟨_, rfl⟩
 obtain ⟨wt2, e5⟩ : ∃ n, Hid (S'.wait = n) := ⟨_, rfl⟩
 have hcap : Hid (S'.t.length ≤ tc) := hU.ft.cap
 go_upto_region 3 with fail
 replace hU := hU.below (Below.refl _ _).drew
 replace b4 := b4.drew
 replace hB := hB.drew
 have hP3 := hU.fb
 rw [e1.out, e2.out, e3.out, e4.out, e5.out] at hP3
 have hW1 : w.heap.size + 3 ≤ g ∧ w.heap.size + 3 ≤ u := ⟨hW0 g (by simp [wbs]), hW0 u (by simp [wbs])⟩
 have hkeep : ∀ w3, Kp [w.heap.size + 1 + 1] w2.drew w3 → Clv S' ⟨g, 0, none⟩ ⟨u, 0, none⟩ la2 w3 ∧ Li Td.vals 0 ta S'.t w3 ∧ w.heap.size ≤ g ∧ w.heap.size ≤ u ∧ (∀ x ∈ S'.cs, Li Kt.vals w.heap.size x.1.ka x.2 w3) := fun w3 hk9 => by
  have o1 : ∀ x ∈ S'.cs, Off x.1.ka x.2 (w.heap.size + 1 + 1) := fun x hx => off_nilc Kt.vals_length ((hU.fk x hx).2.1.mono (Nat.zero_le _)) b4 1 (by decide) (fun k => ⟨_, rfl, fun _ _ _ h => by cases h⟩)
  have o2 : Off la2 S'.ls (w.heap.size + 1 + 1) := off_nilc Le.vals_length hU.fl b4 1 (by decide) (fun k => ⟨_, rfl, fun _ _ _ h => by cases h⟩)
  have o3 : Off ta S'.t (w.heap.size + 1 + 1) := off_nilc Td.vals_length (hU.ft.li) b4 1 (by decide) (fun k => ⟨_, rfl, fun _ _ _ h => by cases h⟩)
  exact ⟨⟨(hU.fc.kp hk9 (by simp; omega)).li (Nat.zero_le _), (hU.fu.kp hk9 (by simp; omega)).li (Nat.zero_le _), hU.fl.off hk9 (fun q hq => by simp at hq; subst hq; exact o2), fun x hx => ⟨(hU.fk x hx).1, ((hU.fk x hx).2.1.off hk9 (fun q hq => by simp at hq; subst hq; exact o1 x hx)).mono (Nat.zero_le _)⟩⟩, hU.ft.li.off hk9 (fun q hq => by simp at hq; subst hq; exact o3), by omega, by omega, fun x hx => ((hU.fk x hx).2.1.off hk9 (fun q hq => by simp at hq; subst hq; exact o1 x hx)).mono (by omega)⟩
 clear hU hW0 hta
 refine wp_region_held_drew (S := fun w' => Blk P (uac wt2 (.slice (some ⟨g, 0, none⟩) n1 cc) (.slice (some ⟨u, 0, none⟩) n2 uc) (.slice la2 n3 lc2) (.slice ta n4 tc)) 86 w') (by kernel_rfl) hP3.drew (fun hHeld => ?_)
 refine tkQ 0 hHeld ?_
 try simp only [yy]
 refine' tkH 1 (v := _) rfl (by kernel_rfl) (fun _ _ _ h => h) (yieldsIf_load_mid (by rfl) _ _ rfl P 0 rfl (clc wt2 (.slice (some ⟨g, 0, none⟩) n1 cc) (.slice (some ⟨u, 0, none⟩) n2 uc) (.slice la2 n3 lc2)).toList _ ?hS2 Tryz.underlying29 rfl sizeCl) hHeld ?_
 case hS2 => exact fun w h => h.range 0 _ (ua_cl _ _ _ _ _)
 try simp only [yy]
 refine tkQ 2 hHeld ?_
 try simp only [yy]
 refine tkH 3 (v := ?v4) rfl (by kernel_rfl) (fun _ _ _ h => h) (Or.inl ⟨by rfl, ?hy4⟩) hHeld ?_
 case hy4 => (intro w hSw; have hc := hSw.cell 4 (.slice ta n4 tc) rfl; clear hSw; go_simp; try with_reducible rfl)
 try simp only [yy]
 refine rd1 4 (fun K hK => ?_)
 rw [if_pos (by rfl)]
 refine wp_store_part 29 _ _ rfl (off := 0) (cells := (clc wt2 (.slice (some ⟨g, 0, none⟩) n1 cc) (.slice (some ⟨u, 0, none⟩) n2 uc) (.slice la2 n3 lc2))) b4 rfl rfl sizeCl (Nat.le_refl _) (clc_one _ _ _ _ _ _ _ _ _ _) ?_
 intro u1 hn9 hk9
 rw [putAt_all _ _ (by rfl)] at hn9
 refine hK.out _ _ (hHeld.kp1 hk9 (by omega)) (fun hHeld => ?_)
 clear hK K 
 try simp only [yy]
 refine tkQ 5 hHeld ?_
 try simp only [yy]
 refine wpAnyH_done (by kernel_rfl) ?_ _
 go_wp2_with fail
 (try simp only [Exit.inBlock, Exit.then])
 have hq9 := hkeep _ hk9
 exact bodyPost_ret (v := .tuple #[.agg (clc wt2 (.slice (some ⟨g, 0, none⟩) n1 cc) (.slice (some ⟨u, 0, none⟩) n2 uc) (.slice la2 n3 lc2)), .slice ta n4 tc]) (ret_two rfl rfl hn9 Tryz.underlying29 rfl sizeCl rfl) rfl ⟨⟨CS, S', g, cc, u, uc, la2, lc2, ta, tc, by rw [e1.out, e2.out, e3.out, e4.out, e5.out], HK.out, hN.out, hcap.out, hq9⟩, hB.trans (hk9.below1 (by omega) hB.size)⟩
end Go.Proofs.YthgfpdidilolgaaGreat
namespace Go.Proofs.YthgfpdidilolgaaGreat
set_option maxRecDepth 10000
open Go.RowKit Go.Sort
set_option linter.unusedVariables false
structure AlC (x y : Co × List Kt) : Prop where
 c : ∀ a n k, x.1.kp a n k = y.1.kp a n k
 L : likes x.2 y.2
theorem AlC.parts {x y : Co × List Kt} (h : AlC x y) : x.1.own = y.1.own ∧ x.1.conf = y.1.conf := by
 obtain ⟨a, n, k, e⟩ := eq_kp h.c
 rw [e]
 exact ⟨rfl, rfl⟩
def Td.bare (t : Td) : Td := ⟨t.who, t.inc, t.inn, t.h.bare⟩
structure AlS (S U : Cs) : Prop where
 wait : S.wait = U.wait
 len : S.cs.length = U.cs.length
 cs : ∀ (i : Nat) (x y : Co × List Kt), S.cs[i]? = some x → U.cs[i]? = some y → AlC x y
 up : S.up = U.up
 ls : Als S.ls U.ls
 t : S.t.map Td.bare = U.t.map Td.bare
theorem AlS.isUp {S U : Cs} (h : AlS S U) (who : Int) : isUpB S who = isUpB U who := by unfold isUpB; rw [h.len, h.up]
structure OkS (m : Nat) (S : Cs) : Prop where
 n8 : S.cs.length ≤ 8
 n : S.up.length = S.cs.length
 c : ∀ (i : Nat) (x : Co × List Kt), S.cs[i]? = some x → x.1.self = (i : Int) ∧ x.1.fit ∧ x.2.length ≤ m ∧ Ok7 x.1 x.2
 l : S.ls.length ≤ 4096
theorem OkS.gd {m : Nat} {S : Cs} (h : OkS m S) (hm : m ≤ 1000000) (ht : S.t.length ≤ m) : Gd m S :=
 ⟨hm, h.n, fun i x hx => ⟨Nat.lt_of_lt_of_le (List.getElem?_eq_some_iff.1 hx).1 h.n8, (h.c i x hx).1, (h.c i x hx).2.1, (h.c i x hx).2.2.1⟩, ht, h.l⟩
theorem OkS.set {m : Nat} {S : Cs} (h : OkS m S) {i : Nat} (hi : i < S.cs.length) {c : Co} {L : List Kt} (hs : c.self = (i : Int)) (hf : c.fit) (hL : L.length ≤ m + 4) (hk : Ok7 c L) (a : Option Addr) (p q : Nat) {up : List Bool} (hup : up.length = S.cs.length) {ls : List Le} (hl : ls.length ≤ 4096) (t : List Td) :
  OkS (m + 4) ⟨S.wait, S.cs.set i (c.kp a p q, L), up, ls, t⟩ := by
 refine ⟨by show (S.cs.set i _).length ≤ 8; rw [List.length_set]; exact h.n8, by show up.length = (S.cs.set i _).length; rw [List.length_set]; exact hup, fun j y hy => ?_, hl⟩
 have hy' : (S.cs.set i (c.kp a p q, L))[j]? = some y := hy
 by_cases e : i = j
 ·subst e
  rw [List.getElem?_set_self hi] at hy'
  cases hy'
  exact ⟨hs, fit_kp hf _ _ _, hL, hk.kp _ _ _⟩
 ·rw [List.getElem?_set_ne e] at hy'
  obtain ⟨h1, h2, h3, h4⟩ := h.c j y hy'
  exact ⟨h1, h2, by omega, h4⟩
theorem OkS.stay {m : Nat} {S : Cs} (h : OkS m S) {up : List Bool} (hup : up.length = S.cs.length) {ls : List Le} (hl : ls.length ≤ 4096) (t : List Td) : OkS (m + 4) ⟨S.wait, S.cs, up, ls, t⟩ :=
 ⟨h.n8, hup, fun i x hx => by obtain ⟨h1, h2, h3, h4⟩ := h.c i x hx; exact ⟨h1, h2, by omega, h4⟩, hl⟩
theorem ok_parts {y : Pw} (h : y.ok = true) (hy : ∀ j, y.num j < 4294967296) : (y.pk hy).n 22 < 8 ∧ frOk (y.pk hy).f0 = true ∧ frOk (y.pk hy).f1 = true ∧ frOk (y.pk hy).f2 = true := by
 obtain ⟨_, _, _, h22, h0, h1, h2⟩ := Eld.Pk.may_parts h
 exact ⟨h22, h0, h1, h2⟩
theorem OkS.step {Q : Pw → Prop} {m : Nat} {S : Cs} (h : OkS m S) {d : De} {S' : Cs} (hN : Nxt Q S d S') : OkS (m + 4) S' := by
 have hrec : ∀ (ls : List Le) (who : Int) (t : ByteArray) (S' : Cs), ls.length ≤ 4096 → RcS Q ⟨S.wait, S.cs, S.up, ls, S.t⟩ who t S' → OkS (m + 4) S' := fun ls who t S' hl hr => by
  rcases hr with ⟨rfl, _⟩ | ⟨i, x, y, hy, a, q, s, _, _, _, _, hok, hx, hs, rfl⟩
  ·exact h.stay h.n hl _
  ·obtain ⟨h1, h2, h3, h4⟩ := h.c i x hx
   have hi := (List.getElem?_eq_some_iff.1 hx).1
   have hlen := recvS_len x.1 x.2 (y.pk hy)
   have hft := fit_recv h2 x.2 (y.pk hy)
   have hse := recvS_self x.1 x.2 (y.pk hy)
   have hk := ok_recv h4 (ok_parts hok hy)
   rw [← hs] at hlen hft hse hk
   exact h.set hi (hse.1.trans h1) hft (by omega) hk a _ q h.n hl _
 rcases hN with ⟨_, e | ⟨i, x, a, k, s, _, _, hx, hs, rfl⟩⟩ | ⟨_, e | ⟨_, hr⟩⟩ | ⟨_, e | ⟨_, hr⟩⟩ | ⟨_, rfl⟩ | ⟨_, rfl⟩ | ⟨_, rfl⟩ | ⟨_, rfl⟩ | ⟨_, rfl⟩
 ·rw [e.2]; exact h.stay h.n h.l _
 ·obtain ⟨h1, h2, h3, h4⟩ := h.c i x hx
  have hi := (List.getElem?_eq_some_iff.1 hx).1
  have hi8 : i < 8 := Nat.lt_of_lt_of_le hi h.n8
  have hlen := tickS_len x.1 x.2 (if frOk d.f = true then d.f else noFr)
  have hft := fit_tick h2 i hi8 h1 x.2 (if frOk d.f = true then d.f else noFr)
  have hse := tickS_self x.1 x.2 (if frOk d.f = true then d.f else noFr)
  have hk := ok_tick h4 i hi8 h1 (if frOk d.f = true then d.f else noFr) (by split; assumption; exact frOk_no)
  rw [← hs] at hlen hft hse hk
  unfold wriS becS
  split
  ·split
   ·exact h.set hi (hse.1.trans h1) hft (by omega) hk a _ k h.n h.l _
   ·exact h.set hi (hse.1.trans h1) hft (by omega) hk a _ k h.n put_sub.2 _
  ·exact h.set hi (hse.1.trans h1) hft (by omega) hk a _ k h.n h.l _
 ·rw [e.2]; exact h.stay h.n h.l _
 ·exact hrec _ _ _ _ (Nat.le_trans left_mem.2 h.l) hr
 ·rw [e.2]; exact h.stay h.n h.l _
 ·exact hrec _ _ _ _ h.l hr
 ·exact h.stay h.n (Nat.le_trans left_mem.2 h.l) _
 ·refine h.stay h.n ?_ _
  unfold trnL
  split
  ·exact h.l
  ·split
   ·exact h.l
   ·rw [List.length_set]; exact h.l
 ·unfold crashS
  split
  ·exact h.stay (by rw [List.length_set]; exact h.n) h.l _
  ·exact h.stay h.n h.l _
 ·unfold upS
  split
  ·rename_i hd
   obtain ⟨hd, _⟩ := hd
   unfold isD at hd
   rw [decide_eq_true_eq] at hd
   obtain ⟨i, ei⟩ : ∃ i : Nat, d.who = (i : Int) := ⟨d.who.toNat, by omega⟩
   rw [ei, Int.toNat_natCast]
   split
   ·exact h.stay h.n h.l _
   ·rename_i x hx
    split
    ·rename_i hs
     have hi := (List.getElem?_eq_some_iff.1 hx).1
     have hft := fit_start (s := (i : Int)) (n := (x.1.own + 1) % 4294967296) (Nat.mod_lt _ (by decide)) S.wait hs
     have hk : startC (i : Int) ((x.1.own + 1) % 4294967296) S.wait = (startC (i : Int) ((x.1.own + 1) % 4294967296) S.wait).kp (startC (i : Int) ((x.1.own + 1) % 4294967296) S.wait).ka (startC (i : Int) ((x.1.own + 1) % 4294967296) S.wait).kn (startC (i : Int) ((x.1.own + 1) % 4294967296) S.wait).kc := rfl
     have hi8 : i < 8 := Nat.lt_of_lt_of_le hi h.n8
     have hself : (startC (i : Int) ((x.1.own + 1) % 4294967296) S.wait).self = (i : Int) ∧ Ok7 (startC (i : Int) ((x.1.own + 1) % 4294967296) S.wait) [] := by
      unfold startC
      rw [if_pos hs]
      exact ⟨rfl, by show (i : Int).toNat < 8; simp; exact hi8, by show (i : Int).toNat < 8; simp; exact hi8, fun k hk => by cases hk⟩
     have := h.set hi hself.1 hft (by simp) hself.2 (startC (i : Int) ((x.1.own + 1) % 4294967296) S.wait).ka (startC (i : Int) ((x.1.own + 1) % 4294967296) S.wait).kn (startC (i : Int) ((x.1.own + 1) % 4294967296) S.wait).kc (up := S.up.set i true) (by rw [List.length_set]; exact h.n) h.l S.t
     rw [← hk] at this
     exact this
    ·exact h.stay h.n h.l _
  ·exact h.stay h.n h.l _
 ·exact h.stay h.n h.l _
end Go.Proofs.YthgfpdidilolgaaGreat
