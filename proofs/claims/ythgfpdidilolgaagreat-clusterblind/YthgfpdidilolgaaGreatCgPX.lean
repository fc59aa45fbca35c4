/-
  Of the texts beneath these laws, in their order: CgP.
  Each theorem says its own conditions.
-/
import Derived.Test.YthgfpdidilolgaaGreatZ25
import Derived.Test.YthgfpdidilolgaaGreatCeZX
namespace Go.Proofs.YthgfpdidilolgaaGreat
set_option maxRecDepth 10000
set_option linter.unusedSimpArgs false
open Go.RowKit Go.Sort
set_option linter.unusedVariables false
def Plained (c : Co) (L : List Kt) (B : Nat) (e : Ending) (w' : World) : Prop := ∃ b j, e = .returned (.agg (coc (c.kp b L.length j))) ∧ Li Kt.vals B b L w'
theorem Plained.sim {c d : Co} {L : List Kt} {B : Nat} {e : Ending} {w : World} (h : Plained c L B e w) (hc : ∀ a n k, c.kp a n k = d.kp a n k) : Plained d L B e w := by
 obtain ⟨b, j, h1, h2⟩ := h
 exact ⟨b, j, by rw [h1, hc], h2⟩
set_option maxHeartbeats 4000000 in
theorem rplain_ok (c : Co) (L : List Kt) (a : Option Addr) (k : Nat) (hl : L.length * 352 ≤ 140737488355328) (w : World) (lS : Li Kt.vals 0 a L w) :
  Calls Tryz.prog 24 #[.agg (coc (c.kp a L.length k))] w fun e w' => Plained c (L.map Kt.bare) w.heap.size e w' ∧ Below w.heap.size w w' := by
 obtain ⟨iI, zI, hI, hz0, hsz, hby, hzs⟩ := infoKt
 obtain ⟨n, hn⟩ : ∃ n, L.length = n := ⟨_, rfl⟩
 rw [hn] at hl ⊢
 have HN : Hid (L.length = n) := hn
 have hlm : n ≤ 399822410100 := by omega
 clear hn hl
 obtain ⟨e, he⟩ : ∃ e, Hid (c.kp a n k = e) := ⟨_, rfl⟩
 have h39 : (coc e)[39]? = some (.slice a n k) := by rw [← he.out]; rfl
 have hset : ∀ b j, (coc e).setIfInBounds 39 (.slice b n j) = coc (c.kp b n j) := fun b j => by rw [← he.out, Co.s_kept]; rfl
 rw [he.out]
 clear he
 obtain ⟨q0, a1, hB⟩ := two_blk (T0 := 78) (T1 := 78) (C0 := coc e) (C1 := coc Co.zero) (w := w) rfl
 go_enter Tryz.func24, Tryz.ntmps24
 go_upto_region 1 with (refine alloc_zero zeroCo rfl rfl ?_)
 try simp only [Act.put, List.setIfInBounds_toArray, List.set_cons_zero, List.set_cons_succ]
 try simp only [alloc_size]
 generalize (w.alloc (Obj.cells (coc e) 78)).alloc (Obj.cells (coc Co.zero) 78) = W at q0 a1 hB ⊢
 obtain ⟨z, hz⟩ : ∃ z, w.heap.size = z := ⟨_, rfl⟩
 rw [hz] at q0 a1 ⊢
 have hW1 := a1.lt
 have hb := below_box W (.cells #[] 53)
 have g0 := blk_new W #[] 53
 go_upto_region 2 with (refine box_no rfl rfl ?_)
 try simp only [Act.put, List.setIfInBounds_toArray, List.set_cons_zero, List.set_cons_succ]
 generalize W.alloc (Obj.cells #[] 53) = W1 at g0 hb ⊢
 have hG0 : Lg Kt.vals 38 53 (z + 1 + 1) (some ⟨W.heap.size, 0, none⟩) 0 [] W1 := Lg.of (Ow.empty g0) (by omega)
 replace q0 := q0.below hb
 replace a1 := a1.below hb
 replace hB := hB.trans (hb.mono hB.size)
 clear hb g0
 generalize W.heap.size = y at hG0 hW1 ⊢
 go_upto_region 3 with fail
 go_loopw [3, 4] (fun lv iv wr => ∃ (i : Nat) (b : Option Addr) (j : Nat), i ≤ n ∧ iv = .int .i64 i ∧ lv = .slice b i j ∧ Lg Kt.vals 38 53 (z + 1 + 1) b j ((L.take i).map Kt.bare) wr ∧ Blk z (coc e) 78 wr ∧ Blk (z + 1) (coc Co.zero) 78 wr ∧ Below w.heap.size w wr) (fun _ iv _ => n - (intOf iv).toNat)
 case atStart => exact ⟨0, some ⟨y, 0, none⟩, 0, by omega, rfl, rfl, hG0, q0, a1, hB⟩
 case round =>
  clear q0 a1 hB hG0
  obtain ⟨i, b, j, hi, rfl, rfl, hG, q0, a1, hB⟩ := hrel
  rename World => V
  by_cases hin : i < n
  ·have j0 : (i : Int) < (n : Int) := by omega
   have j1 : (0 : Int) ≤ (i : Int) := by omega
   obtain ⟨x, hk⟩ : ∃ k, L[i]? = some k := ⟨_, List.getElem?_eq_getElem (by rw [HN.out]; exact hin)⟩
   obtain ⟨b0, o, rfl, _, hbl, _⟩ := lS.at Kt.vals_length i x hk
   have hstep : (L.take (i + 1)).map Kt.bare = (L.take i).map Kt.bare ++ [x.bare] := by rw [List.take_add_one, hk]; simp
   have hlen : ((L.take i).map Kt.bare).length = i := by rw [List.length_map, List.length_take, HN.out]; omega
   have p39 := q0.cell 39 _ h39
   go_upto_region 5 with fail
   clear p39
   replace hG := hG.below (Below.refl _ _).drew
   refine wp_region_held_drew (S := fun w' => Below w.heap.size w w' ∧ Blk z (coc e) 78 w' ∧ Blk (z + 1) (coc Co.zero) 78 w') (by kernel_rfl) ⟨hB.drew, q0.drew, a1.drew⟩ (fun hHeld => ?_)
   refine tkQ 0 hHeld ?_
   try simp only [yy]
   refine tkQ 1 hHeld ?_
   try simp only [yy]
   refine tkH 2 (v := ?v3) rfl (by kernel_rfl) (fun _ _ _ h => h) (Or.inl ⟨by rfl, ?hy3⟩) hHeld ?_
   case hy3 => (intro w hSw; have hc : w.cell? ⟨z, 39, none⟩ = some (.slice (some ⟨b0, o, none⟩) n k) := (hSw.2.1.cell 39 _ h39); clear hSw; go_simp; try with_reducible rfl)
   try simp only [yy]
   refine tkQ 3 hHeld ?_
   try simp only [yy]
   refine tkQ 4 hHeld ?_
   try simp only [yy]
   refine tkQ 5 hHeld ?_
   try simp only [yy]
   refine tkH 6 (v := ?v7) rfl (by kernel_rfl) (fun _ _ _ h => h) (Or.inl ⟨by rfl, ?hy7⟩) hHeld ?_
   case hy7 => (intro w hSw; have hc : w.cell? ⟨b0, o + i * 38, none⟩ = some (.int .i64 x.fr) := (by have h9 := (lS.below hSw.1).cel Kt.vals_length i x hk 0 (.int .i64 x.fr) rfl; simpa using h9); clear hSw; go_simp; try with_reducible rfl)
   try simp only [yy]
   refine tkQ 7 hHeld ?_
   try simp only [yy]
   refine tkH 8 (v := ?v9) rfl (by kernel_rfl) (fun _ _ _ h => h) (Or.inl ⟨by rfl, ?hy9⟩) hHeld ?_
   case hy9 => (intro w hSw; have hc : w.cell? ⟨z, 39, none⟩ = some (.slice (some ⟨b0, o, none⟩) n k) := (hSw.2.1.cell 39 _ h39); clear hSw; go_simp; try with_reducible rfl)
   try simp only [yy]
   refine tkQ 9 hHeld ?_
   try simp only [yy]
   refine tkQ 10 hHeld ?_
   try simp only [yy]
   refine tkQ 11 hHeld ?_
   try simp only [yy]
   refine tkH 12 (v := ?v13) rfl (by kernel_rfl) (fun _ _ _ h => h) (Or.inl ⟨by rfl, ?hy13⟩) hHeld ?_
   case hy13 => (intro w hSw; have hc : w.cell? ⟨b0, o + i * 38 + 1, none⟩ = some (.int .u32 (x.rd : Int)) := ((lS.below hSw.1).cel Kt.vals_length i x hk 1 (.int .u32 (x.rd : Int)) rfl); clear hSw; go_simp; try with_reducible rfl)
   try simp only [yy]
   refine tkH 13 (v := .agg x.bare.arr) rfl (by kernel_rfl) (fun _ _ _ h => h) (yields_build (by rfl) 53 #[(0, .tmp 19), (1, .tmp 25)] rfl (by kernel_rfl)) hHeld ?_
   try simp only [yy]
   refine rd1 14 (fun K hK => ?_)
   rw [if_pos (by rfl)]
   refine wp_kt _ rfl x.bare rfl ?_
   intro g u1 hg1 hb hgl hgt
   replace hG := hG.below hb
   refine hK.out _ _ ⟨hHeld.1.trans (hb.mono hHeld.1.size), hHeld.2.1.below hb, hHeld.2.2.below hb⟩ (fun hHeld => ?_)
   clear hK K hb hgl hgt
   try simp only [yy]
   refine rd1 15 (fun K hK => ?_)
   rw [if_pos (by rfl)]
   have hx := (li_one (f := Kt.vals) hg1).src (P := Tryz.prog) Kt.vals_length Kt.vals_one Tryz.underlying73 1
   refine wp_append_ln Kt.vals_length _ _ rfl Tryz.underlying73 hI hz0 hsz hby hzs hG (Nat.succ_le_of_lt hHeld.2.2.lt) hlen rfl (M := [x.bare]) (by simp) hx rfl (by simp; omega) (by simp [maxLen]; omega) ?_
   intro ta' tk' u2 hG' hk' hA'
   refine hK.out _ _ ⟨hHeld.1.trans (hk'.below (fun q hq => by have := hG.in q hq; omega) hHeld.1.size), hHeld.2.1.kp hk' (fun hm => by have := hG.in _ hm; omega), hHeld.2.2.kp hk' (fun hm => by have := hG.in _ hm; omega)⟩ (fun hHeld => ?_)
   clear hK K hG hx hg1 hk' hA'
   try simp only [yy]
   refine tkQ 16 hHeld ?_
   try simp only [yy]
   refine wpAnyH_done (by kernel_rfl) ?_ _
   obtain ⟨hB', q0', a1'⟩ := hHeld
   go_wp2_with fail
   exact ⟨⟨i + 1, ta', tk', by omega, by go_num, by simp, (by rw [hstep]; exact hG'), q0', a1', hB'⟩, by simp [intOf]; omega⟩
  ·have j0 : ¬ (i : Int) < (n : Int) := by omega
   obtain rfl : i = n := by omega
   have hfull : L.take i = L := List.take_of_length_le (by rw [HN.out]; omega)
   rw [hfull] at hG
   have p39 := q0.cell 39 _ h39
   have hne0 : z ∉ blkOf b := fun hm => by have := hG.in _ hm; omega
   have hne1 : z + 1 ∉ blkOf b := fun hm => by have := hG.in _ hm; omega
   go_upto_region 7 with (refine store_one rfl 73 _ _ rfl (off := 39) (.slice b i j) q0 rfl rfl rfl rfl sizeSl (by rw [coc_size]; decide) ?_; intro w2 b2 k2; rw [hset] at b2)
   try simp only [Act.put]
   clear p39 q0
   replace a1 := a1.kp1 k2 (by omega)
   replace hG := hG.away k2 hne0
   replace hB := hB.trans (k2.below1 (by omega) hB.size)
   obtain ⟨d, hd⟩ : ∃ d, Hid (c.kp b i j = d) := ⟨_, rfl⟩
   rw [hd.out] at b2
   go_wp2_with (first | refine load_blk rfl 78 _ rfl b2 rfl Tryz.underlying78 rfl sizeCo ?_ | (refine store_part rfl 78 _ _ rfl (off := 0) (cells := coc d) a1 rfl rfl sizeCo (Nat.le_refl _) (coc_one _) ?_; intro w3 b3 k3; rw [Co.all] at b3; have hB3 : Below w.heap.size w w3 := hB.trans (k3.below1 (by omega) hB.size)))
   exact bodyPost_ret (w := w3) (v := .agg (coc d)) (ret_one rfl rfl b3 Tryz.underlying78 rfl sizeCo) rfl ⟨⟨b, j, by rw [List.length_map, HN.out, hd.out], (hG.away k3 hne1).li.mono (by omega)⟩, by rw [← hz]; exact hB3⟩
end Go.Proofs.YthgfpdidilolgaaGreat
