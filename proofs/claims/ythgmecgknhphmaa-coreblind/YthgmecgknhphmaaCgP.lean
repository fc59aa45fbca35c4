/-
  A core, and happenings, without what stands in frames, as the document's own calls say (congressref13.Plain, PlainTold).
  What is kept, and told, takes no more bytes than a list may.
-/
import Derived.Test.YthgmecgknhphmaaCgM
import Derived.Test.YthgmecgknhphmaaCeZ
namespace Go.Proofs.Ythgmecgknhphmaa
set_option maxRecDepth 10000
set_option linter.unusedSimpArgs false
open Go.RowKit Go.Sort
set_option linter.unusedVariables false

def Plained (c : Co) (L : List Kt) (B : Nat) (e : Ending) (w' : World) : Prop := ∃ b j, e = .returned (.agg (coc (c.kp b L.length j))) ∧ Li Kt.vals B b L w'
theorem Plained.sim {c d : Co} {L : List Kt} {B : Nat} {e : Ending} {w : World} (h : Plained c L B e w) (hc : ∀ a n k, c.kp a n k = d.kp a n k) : Plained d L B e w := by
  obtain ⟨b, j, h1, h2⟩ := h
  exact ⟨b, j, by rw [h1, hc], h2⟩
def Ptold (L : List Hp) (B : Nat) (e : Ending) (w' : World) : Prop := ∃ b j, e = .returned (.slice b L.length j) ∧ Li Hp.vals B b L w'
set_option maxHeartbeats 4000000 in
theorem rplain_ok (c : Co) (L : List Kt) (a : Option Addr) (k : Nat) (hl : L.length * 352 ≤ 140737488355328) (w : World) (lS : Li Kt.vals 0 a L w) :
    Calls Try.prog 24 #[.agg (coc (c.kp a L.length k))] w fun e w' => Plained c (L.map Kt.bare) w.heap.size e w' ∧ Below w.heap.size w w' := by
  obtain ⟨iI, zI, hI, hz0, hsz, hby, hzs⟩ := infoKt
  obtain ⟨n, hn⟩ : ∃ n, L.length = n := ⟨_, rfl⟩
  rw [hn] at hl ⊢
  have HN : Hid (L.length = n) := hn
  have hlm : n ≤ 399822410100 := by omega
  clear hn hl
  obtain ⟨e, he⟩ : ∃ e, Hid (c.kp a n k = e) := ⟨_, rfl⟩
  have h39 : (coc e)[39]? = some (.slice a n k) := by rw [← he.out]; rfl
  have hset : ∀ b j, (coc e).setIfInBounds 39 (.slice b n j) = coc (c.kp b n j) := fun b j => by rw [← he.out, Co.s_kept]; rfl
  rw [he.out]
  clear he
  obtain ⟨q0, a1, hB⟩ := two_blk (T0 := 35) (T1 := 35) (C0 := coc e) (C1 := coc Co.zero) (w := w) rfl
  go_enter Try.func24, Try.ntmps24
  go_upto_region 1 with (refine alloc_zero zeroCo rfl rfl ?_)
  try simp only [Act.put, List.setIfInBounds_toArray, List.set_cons_zero, List.set_cons_succ]
  try simp only [alloc_size]
  generalize (w.alloc (Obj.cells (coc e) 35)).alloc (Obj.cells (coc Co.zero) 35) = W at q0 a1 hB ⊢
  obtain ⟨z, hz⟩ : ∃ z, w.heap.size = z := ⟨_, rfl⟩
  rw [hz] at q0 a1 ⊢
  have hW1 := a1.lt
  have hb := below_box W (.cells #[] 64)
  have g0 := blk_new W #[] 64
  go_upto_region 2 with (refine box_no rfl rfl ?_)
  try simp only [Act.put, List.setIfInBounds_toArray, List.set_cons_zero, List.set_cons_succ]
  generalize W.alloc (Obj.cells #[] 64) = W1 at g0 hb ⊢
  have hG0 : Lg Kt.vals 38 64 (z + 1 + 1) (some ⟨W.heap.size, 0, none⟩) 0 [] W1 := Lg.of (Ow.empty g0) (by omega)
  replace q0 := q0.below hb
  replace a1 := a1.below hb
  replace hB := hB.trans (hb.mono hB.size)
  clear hb g0
  generalize W.heap.size = y at hG0 hW1 ⊢
  go_upto_region 3 with fail
  go_loopw [3, 4] (fun lv iv wr => ∃ (i : Nat) (b : Option Addr) (j : Nat), i ≤ n ∧ iv = .int .i64 i ∧ lv = .slice b i j ∧ Lg Kt.vals 38 64 (z + 1 + 1) b j ((L.take i).map Kt.bare) wr ∧ Blk z (coc e) 35 wr ∧ Blk (z + 1) (coc Co.zero) 35 wr ∧ Below w.heap.size w wr) (fun _ iv _ => n - (intOf iv).toNat)
  case atStart => exact ⟨0, some ⟨y, 0, none⟩, 0, by omega, rfl, rfl, hG0, q0, a1, hB⟩
  case round =>
    clear q0 a1 hB hG0
    obtain ⟨i, b, j, hi, rfl, rfl, hG, q0, a1, hB⟩ := hrel
    rename World => V
    by_cases hin : i < n
    · have j0 : (i : Int) < (n : Int) := by omega
      have j1 : (0 : Int) ≤ (i : Int) := by omega
      obtain ⟨x, hk⟩ : ∃ k, L[i]? = some k := ⟨_, List.getElem?_eq_getElem (by rw [HN.out]; exact hin)⟩
      obtain ⟨b0, o, rfl, _, hbl, _⟩ := lS.at Kt.vals_length i x hk
      have hstep : (L.take (i + 1)).map Kt.bare = (L.take i).map Kt.bare ++ [x.bare] := by rw [List.take_add_one, hk]; simp
      have hlen : ((L.take i).map Kt.bare).length = i := by rw [List.length_map, List.length_take, HN.out]; omega
      have p39 := q0.cell 39 _ h39
      go_upto_region 5 with fail
      clear p39
      replace hG := hG.below (Below.refl _ _).drew
      refine wp_region_held_drew (S := fun w' => Below w.heap.size w w' ∧ Blk z (coc e) 35 w' ∧ Blk (z + 1) (coc Co.zero) 35 w') (by kernel_rfl) ⟨hB.drew, q0.drew, a1.drew⟩ (fun hHeld => ?_)
      refine tkH 0 (v := ?v1) rfl (by kernel_rfl) (fun _ _ _ h => h) (Or.inl ⟨by rfl, ?hy1⟩) hHeld ?rest1
      case hy1 => (intro w hSw; clear hSw; go_simp; try with_reducible rfl)
      try simp only [List.getElem_toArray, List.getElem_cons_succ, List.getElem_cons_zero, Act.put, List.setIfInBounds_toArray, List.set_cons_succ, List.set_cons_zero]
      refine tkH 1 (v := ?v2) rfl (by kernel_rfl) (fun _ _ _ h => h) (Or.inl ⟨by rfl, ?hy2⟩) hHeld ?rest2
      case hy2 => (intro w hSw; clear hSw; go_simp; try with_reducible rfl)
      try simp only [List.getElem_toArray, List.getElem_cons_succ, List.getElem_cons_zero, Act.put, List.setIfInBounds_toArray, List.set_cons_succ, List.set_cons_zero]
      refine tkH 2 (v := ?v3) rfl (by kernel_rfl) (fun _ _ _ h => h) (Or.inl ⟨by rfl, ?hy3⟩) hHeld ?rest3
      case hy3 => (intro w hSw; have hc : w.cell? ⟨z, 39, none⟩ = some (.slice (some ⟨b0, o, none⟩) n k) := (hSw.2.1.cell 39 _ h39); clear hSw; go_simp; try with_reducible rfl)
      try simp only [List.getElem_toArray, List.getElem_cons_succ, List.getElem_cons_zero, Act.put, List.setIfInBounds_toArray, List.set_cons_succ, List.set_cons_zero]
      refine tkH 3 (v := ?v4) rfl (by kernel_rfl) (fun _ _ _ h => h) (Or.inl ⟨by rfl, ?hy4⟩) hHeld ?rest4
      case hy4 => (intro w hSw; clear hSw; go_simp; try with_reducible rfl)
      try simp only [List.getElem_toArray, List.getElem_cons_succ, List.getElem_cons_zero, Act.put, List.setIfInBounds_toArray, List.set_cons_succ, List.set_cons_zero]
      refine tkH 4 (v := ?v5) rfl (by kernel_rfl) (fun _ _ _ h => h) (Or.inl ⟨by rfl, ?hy5⟩) hHeld ?rest5
      case hy5 => (intro w hSw; clear hSw; go_simp; try with_reducible rfl)
      try simp only [List.getElem_toArray, List.getElem_cons_succ, List.getElem_cons_zero, Act.put, List.setIfInBounds_toArray, List.set_cons_succ, List.set_cons_zero]
      refine tkH 5 (v := ?v6) rfl (by kernel_rfl) (fun _ _ _ h => h) (Or.inl ⟨by rfl, ?hy6⟩) hHeld ?rest6
      case hy6 => (intro w hSw; clear hSw; go_simp; try with_reducible rfl)
      try simp only [List.getElem_toArray, List.getElem_cons_succ, List.getElem_cons_zero, Act.put, List.setIfInBounds_toArray, List.set_cons_succ, List.set_cons_zero]
      refine tkH 6 (v := ?v7) rfl (by kernel_rfl) (fun _ _ _ h => h) (Or.inl ⟨by rfl, ?hy7⟩) hHeld ?rest7
      case hy7 => (intro w hSw; have hc : w.cell? ⟨b0, o + i * 38, none⟩ = some (.int .i64 x.fr) := (by have h9 := (lS.below hSw.1).cel Kt.vals_length i x hk 0 (.int .i64 x.fr) rfl; simpa using h9); clear hSw; go_simp; try with_reducible rfl)
      try simp only [List.getElem_toArray, List.getElem_cons_succ, List.getElem_cons_zero, Act.put, List.setIfInBounds_toArray, List.set_cons_succ, List.set_cons_zero]
      refine tkH 7 (v := ?v8) rfl (by kernel_rfl) (fun _ _ _ h => h) (Or.inl ⟨by rfl, ?hy8⟩) hHeld ?rest8
      case hy8 => (intro w hSw; clear hSw; go_simp; try with_reducible rfl)
      try simp only [List.getElem_toArray, List.getElem_cons_succ, List.getElem_cons_zero, Act.put, List.setIfInBounds_toArray, List.set_cons_succ, List.set_cons_zero]
      refine tkH 8 (v := ?v9) rfl (by kernel_rfl) (fun _ _ _ h => h) (Or.inl ⟨by rfl, ?hy9⟩) hHeld ?rest9
      case hy9 => (intro w hSw; have hc : w.cell? ⟨z, 39, none⟩ = some (.slice (some ⟨b0, o, none⟩) n k) := (hSw.2.1.cell 39 _ h39); clear hSw; go_simp; try with_reducible rfl)
      try simp only [List.getElem_toArray, List.getElem_cons_succ, List.getElem_cons_zero, Act.put, List.setIfInBounds_toArray, List.set_cons_succ, List.set_cons_zero]
      refine tkH 9 (v := ?v10) rfl (by kernel_rfl) (fun _ _ _ h => h) (Or.inl ⟨by rfl, ?hy10⟩) hHeld ?rest10
      case hy10 => (intro w hSw; clear hSw; go_simp; try with_reducible rfl)
      try simp only [List.getElem_toArray, List.getElem_cons_succ, List.getElem_cons_zero, Act.put, List.setIfInBounds_toArray, List.set_cons_succ, List.set_cons_zero]
      refine tkH 10 (v := ?v11) rfl (by kernel_rfl) (fun _ _ _ h => h) (Or.inl ⟨by rfl, ?hy11⟩) hHeld ?rest11
      case hy11 => (intro w hSw; clear hSw; go_simp; try with_reducible rfl)
      try simp only [List.getElem_toArray, List.getElem_cons_succ, List.getElem_cons_zero, Act.put, List.setIfInBounds_toArray, List.set_cons_succ, List.set_cons_zero]
      refine tkH 11 (v := ?v12) rfl (by kernel_rfl) (fun _ _ _ h => h) (Or.inl ⟨by rfl, ?hy12⟩) hHeld ?rest12
      case hy12 => (intro w hSw; clear hSw; go_simp; try with_reducible rfl)
      try simp only [List.getElem_toArray, List.getElem_cons_succ, List.getElem_cons_zero, Act.put, List.setIfInBounds_toArray, List.set_cons_succ, List.set_cons_zero]
      refine tkH 12 (v := ?v13) rfl (by kernel_rfl) (fun _ _ _ h => h) (Or.inl ⟨by rfl, ?hy13⟩) hHeld ?rest13
      case hy13 => (intro w hSw; have hc : w.cell? ⟨b0, o + i * 38 + 1, none⟩ = some (.int .u32 (x.rd : Int)) := ((lS.below hSw.1).cel Kt.vals_length i x hk 1 (.int .u32 (x.rd : Int)) rfl); clear hSw; go_simp; try with_reducible rfl)
      try simp only [List.getElem_toArray, List.getElem_cons_succ, List.getElem_cons_zero, Act.put, List.setIfInBounds_toArray, List.set_cons_succ, List.set_cons_zero]
      refine tkH 13 (v := .agg x.bare.arr) rfl (by kernel_rfl) (fun _ _ _ h => h) (yields_build (by rfl) 64 #[(0, .tmp 19), (1, .tmp 25)] rfl (by kernel_rfl)) hHeld ?rest14
      try simp only [List.getElem_toArray, List.getElem_cons_succ, List.getElem_cons_zero, Act.put, List.setIfInBounds_toArray, List.set_cons_succ, List.set_cons_zero]
      refine wpAnyH_ready (rs := [14]) (by kernel_rfl) (by simp) ?_
      refine AllReadyH.cons rfl (fun K hK => ?_) (AllReadyH.nil)
      rw [if_pos (by rfl)]
      refine wp_kt _ rfl x.bare rfl ?_
      intro g u1 hg1 hb hgl hgt
      replace hG := hG.below hb
      refine hK.out _ _ ⟨hHeld.1.trans (hb.mono hHeld.1.size), hHeld.2.1.below hb, hHeld.2.2.below hb⟩ (fun hHeld => ?_)
      clear hK K hb hgl hgt
      try simp only [List.getElem_toArray, List.getElem_cons_succ, List.getElem_cons_zero, Act.put, List.setIfInBounds_toArray, List.set_cons_succ, List.set_cons_zero]
      refine wpAnyH_ready (rs := [15]) (by kernel_rfl) (by simp) ?_
      refine AllReadyH.cons rfl (fun K hK => ?_) (AllReadyH.nil)
      rw [if_pos (by rfl)]
      have hx := (li_one (f := Kt.vals) hg1).src (P := Try.prog) Kt.vals_length Kt.vals_one Try.underlying30 1
      refine wp_append_ln Kt.vals_length _ _ rfl Try.underlying30 hI hz0 hsz hby hzs hG (Nat.succ_le_of_lt hHeld.2.2.lt) hlen rfl (M := [x.bare]) (by simp) hx rfl (by simp; omega) (by simp [maxLen]; omega) ?_
      intro ta' tk' u2 hG' hk' hA'
      refine hK.out _ _ ⟨hHeld.1.trans (hk'.below (fun q hq => by have := hG.in q hq; omega) hHeld.1.size), hHeld.2.1.kp hk' (fun hm => by have := hG.in _ hm; omega), hHeld.2.2.kp hk' (fun hm => by have := hG.in _ hm; omega)⟩ (fun hHeld => ?_)
      clear hK K hG hx hg1 hk' hA'
      try simp only [List.getElem_toArray, List.getElem_cons_succ, List.getElem_cons_zero, Act.put, List.setIfInBounds_toArray, List.set_cons_succ, List.set_cons_zero]
      refine tkH 16 (v := ?v15) rfl (by kernel_rfl) (fun _ _ _ h => h) (Or.inl ⟨by rfl, ?hy15⟩) hHeld ?rest15
      case hy15 => (intro w hSw; clear hSw; go_simp; try with_reducible rfl)
      try simp only [List.getElem_toArray, List.getElem_cons_succ, List.getElem_cons_zero, Act.put, List.setIfInBounds_toArray, List.set_cons_succ, List.set_cons_zero]
      refine wpAnyH_done (by kernel_rfl) ?_ _
      obtain ⟨hB', q0', a1'⟩ := hHeld
      go_wp2_with fail
      exact ⟨⟨i + 1, ta', tk', by omega, by go_num, by simp, (by rw [hstep]; exact hG'), q0', a1', hB'⟩, by simp [intOf]; omega⟩
    · have j0 : ¬ (i : Int) < (n : Int) := by omega
      obtain rfl : i = n := by omega
      have hfull : L.take i = L := List.take_of_length_le (by rw [HN.out]; omega)
      rw [hfull] at hG
      have p39 := q0.cell 39 _ h39
      have hne0 : z ∉ blkOf b := fun hm => by have := hG.in _ hm; omega
      have hne1 : z + 1 ∉ blkOf b := fun hm => by have := hG.in _ hm; omega
      go_upto_region 7 with (refine store_one rfl 30 _ _ rfl (off := 39) (.slice b i j) q0 rfl rfl rfl rfl sizeSl (by rw [coc_size]; decide) ?_; intro w2 b2 k2; rw [hset] at b2)
      try simp only [Act.put]
      clear p39 q0
      replace a1 := a1.kp1 k2 (by omega)
      replace hG := hG.away k2 hne0
      replace hB := hB.trans (k2.below1 (by omega) hB.size)
      obtain ⟨d, hd⟩ : ∃ d, Hid (c.kp b i j = d) := ⟨_, rfl⟩
      rw [hd.out] at b2
      go_wp2_with (first | refine load_blk rfl 35 _ rfl b2 rfl Try.underlying35 rfl sizeCo ?_ | (refine store_part rfl 35 _ _ rfl (off := 0) (cells := coc d) a1 rfl rfl sizeCo (Nat.le_refl _) (coc_one _) ?_; intro w3 b3 k3; rw [Co.all] at b3; have hB3 : Below w.heap.size w w3 := hB.trans (k3.below1 (by omega) hB.size)))
      exact bodyPost_ret (w := w3) (v := .agg (coc d)) (ret_one rfl rfl b3 Try.underlying35 rfl sizeCo) rfl ⟨⟨b, j, by rw [List.length_map, HN.out, hd.out], (hG.away k3 hne1).li.mono (by omega)⟩, by rw [← hz]; exact hB3⟩

theorem Hp.bare_put (x : Hp) : putAt x.arr 3 (frc noFr).toList = x.bare.arr := by kernel_rfl
set_option maxHeartbeats 4000000 in
theorem rptold_ok (L : List Hp) (a : Option Addr) (k : Nat) (hl : L.length * 408 ≤ 140737488355328) (w : World) (lS : Li Hp.vals 0 a L w) :
    Calls Try.prog 25 #[.slice a L.length k] w fun e w' => Ptold (L.map Hp.bare) w.heap.size e w' ∧ Below w.heap.size w w' := by
  obtain ⟨iI, zI, hI, hz0, hsz, hby, hzs⟩ := infoHp
  obtain ⟨n, hn⟩ : ∃ n, L.length = n := ⟨_, rfl⟩
  rw [hn] at hl ⊢
  have HN : Hid (L.length = n) := hn
  have hlm : n ≤ 344944824400 := by omega
  clear hn hl
  have hb := below_box w (.cells #[] 66)
  have g0 := blk_new w #[] 66
  go_enter Try.func25, Try.ntmps25
  go_upto_region 2 with (refine box_nohp rfl rfl ?_)
  try simp only [Act.put, List.setIfInBounds_toArray, List.set_cons_zero, List.set_cons_succ]
  generalize w.alloc (Obj.cells #[] 66) = W at g0 hb ⊢
  obtain ⟨z, hz⟩ : ∃ z, w.heap.size = z := ⟨_, rfl⟩
  have hG0 : Lg Hp.vals 50 66 z (some ⟨z, 0, none⟩) 0 [] W := by rw [hz] at g0; exact Lg.of (Ow.empty g0) (by omega)
  rw [hz]
  go_upto_region 3 with fail
  go_loopw [3, 4] (fun lv iv wr => ∃ (i : Nat) (b : Option Addr) (j : Nat), i ≤ n ∧ iv = .int .i64 i ∧ lv = .slice b i j ∧ Lg Hp.vals 50 66 z b j ((L.take i).map Hp.bare) wr ∧ Below w.heap.size w wr) (fun _ iv _ => n - (intOf iv).toNat)
  case atStart => exact ⟨0, some ⟨z, 0, none⟩, 0, by omega, rfl, rfl, hG0, hb⟩
  case round =>
    clear hb hG0 g0
    obtain ⟨i, b, j, hi, rfl, rfl, hG, hB⟩ := hrel
    rename World => V
    have hzV := hB.size
    by_cases hin : i < n
    · have j0 : (i : Int) < (n : Int) := by omega
      have j1 : (0 : Int) ≤ (i : Int) := by omega
      obtain ⟨x, hk⟩ : ∃ k, L[i]? = some k := ⟨_, List.getElem?_eq_getElem (by rw [HN.out]; exact hin)⟩
      have hS := lS.below hB
      obtain ⟨b0, o, rfl, _, hbl, hr⟩ := hS.at Hp.vals_length i x hk
      have hstep : (L.take (i + 1)).map Hp.bare = (L.take i).map Hp.bare ++ [x.bare] := by rw [List.take_add_one, hk]; simp
      have hlen : ((L.take i).map Hp.bare).length = i := by rw [List.length_map, List.length_take, HN.out]; omega
      have hb := below_box V (.cells x.arr 66)
      have h0 := blk_new V x.arr 66
      clear hS
      go_upto_region 6 with (first | refine load_range rfl 66 _ rfl (o := o + i * 50) x.vals hr rfl Try.underlying66 rfl sizeHp ?_ | refine alloc_zero zeroHp rfl rfl ?_ | refine store_new rfl 66 _ _ rfl (cells := x.arr) rfl rfl sizeHp rfl x.arr_one ?_)
      try simp only [Act.put, List.setIfInBounds_toArray, List.set_cons_zero, List.set_cons_succ]
      generalize V.alloc (Obj.cells x.arr 66) = V7 at h0 hb ⊢
      have hpb : V.heap.size ∉ blkOf b := fun hm => by have := hG.in _ hm; omega
      replace hG := hG.below hb
      replace hB := hB.trans (hb.mono hB.size)
      clear hb hr
      have hzp : z ≤ V.heap.size := by omega
      generalize V.heap.size = p at h0 hpb hzp ⊢
      go_upto_region 7 with (first | (refine build_as rfl 41 #[] rfl (C := frc noFr) ?_ ?_; kernel_rfl) | (refine store_part rfl 41 _ _ rfl (off := 3) (cells := frc noFr) h0 rfl rfl sizeFr (show 3 + 36 ≤ 50 by decide) (frc_one _) ?_; intro w2 b2 k2; rw [Hp.bare_put] at b2))
      try simp only [Act.put]
      clear h0
      replace hG := hG.away k2 hpb
      replace hB := hB.trans (k2.below1 (by omega) hB.size)
      clear k2
      have hb := below_box w2 (.cells x.bare.arr 66)
      have b5 := blk_new w2 x.bare.arr 66
      have g5 := hG.below hb
      have hzw := hB.size
      have hs5 : (w2.alloc (.cells x.bare.arr 66)).heap.size = w2.heap.size + 1 := alloc_size _ _
      have hx := (li_one b5).src (P := Try.prog) Hp.vals_length Hp.vals_one Try.underlying44 1
      have hin5 := g5.in
      go_wp2_with (first | refine load_blk rfl 66 _ rfl b2 rfl Try.underlying66 rfl sizeHp ?_ | refine box_hp rfl _ rfl x.bare rfl ?_ | (refine append_ln Hp.vals_length rfl _ _ rfl Try.underlying44 hI hz0 hsz hby hzs g5 (by omega) hlen rfl (M := [x.bare]) (by simp) hx rfl (by simp; omega) (by simp [maxLen]; omega) ?_; intro ta' tk' w6 hG6 hk6 hA6))
      exact ⟨⟨i + 1, ta', tk', by omega, by go_num, by simp, (by rw [hstep]; exact hG6), (hB.trans (hb.mono hB.size)).trans (hk6.below (fun q hq => by have := hin5 q hq; omega) (by omega))⟩, by simp [intOf]; omega⟩
    · have j0 : ¬ (i : Int) < (n : Int) := by omega
      obtain rfl : i = n := by omega
      have hfull : L.take i = L := List.take_of_length_le (by rw [HN.out]; omega)
      rw [hfull] at hG
      go_wp2_with fail
      go_ret
      exact ⟨⟨b, j, by rw [List.length_map, HN.out]; rfl, hG.li.mono (by omega)⟩, by rw [← hz]; exact hB⟩

def Ev.aw (x : Ev) (f : Nat → En) : Ev := ⟨x.t, f, x.p⟩
def Ev.bw (x : Ev) (f : Nat → En) : Ev := ⟨x.t, x.f, ⟨x.p.n, x.p.lt, x.p.r, f, x.p.f1, x.p.f2⟩⟩
def Ev.cw (x : Ev) (f : Nat → En) : Ev := ⟨x.t, x.f, ⟨x.p.n, x.p.lt, x.p.r, x.p.f0, f, x.p.f2⟩⟩
def Ev.dw (x : Ev) (f : Nat → En) : Ev := ⟨x.t, x.f, ⟨x.p.n, x.p.lt, x.p.r, x.p.f0, x.p.f1, f⟩⟩
theorem Ev.a (x : Ev) (f : Nat → En) : putAt x.arr 1 (frc f).toList = (x.aw f).arr := by kernel_rfl
theorem Ev.b (x : Ev) (f : Nat → En) : putAt x.arr 72 (frc f).toList = (x.bw f).arr := by kernel_rfl
theorem Ev.c (x : Ev) (f : Nat → En) : putAt x.arr 108 (frc f).toList = (x.cw f).arr := by kernel_rfl
theorem Ev.d (x : Ev) (f : Nat → En) : putAt x.arr 146 (frc f).toList = (x.dw f).arr := by kernel_rfl
theorem Ev.with_all (x : Ev) (f : Nat → En) : (((x.aw f).bw f).cw f).dw f = x.with f := rfl
theorem fr_all (f g : Nat → En) : putAt (frc f) 0 (frc g).toList = frc g := putAt_all _ _ rfl

end Go.Proofs.Ythgmecgknhphmaa
