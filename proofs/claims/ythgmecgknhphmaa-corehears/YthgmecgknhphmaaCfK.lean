/-
  A core takes a packet's frames, as the document's own call says (congressref13.take).
  What it keeps takes no more bytes than a list may; nothing was told yet.
-/
import Derived.Test.YthgmecgknhphmaaCfB
import Derived.Test.YthgmecgknhphmaaKtK
namespace Go.Proofs.Ythgmecgknhphmaa
set_option maxRecDepth 10000
set_option linter.unusedSimpArgs false
open Go.RowKit Go.Sort
set_option linter.unusedVariables false

theorem Lg.low {α : Type} {f : α → List Value} {k : Nat} {T : TypeId} {A B : Nat} {a : Option Addr} {c : Nat} {L : List α} {w : World} (h : Lg f k T B a c L w) (hA : A ≤ B) : Lg f k T A a c L w := by
  rcases h with h | ⟨g, e, hB, h⟩
  · exact .inl h
  · exact .inr ⟨g, e, by omega, h⟩

set_option maxHeartbeats 16000000 in
theorem dtake_ok (P : List Nat) (c : Co) (L : List Kt) (p : Pk) (o : Nat → Nat) (hc : ∀ i, c.count i < 4294967296) (hn : c.kn = L.length) (hl : L.length * 352 ≤ 140737488351232) (w00 w : World) (h00 : Below w00.heap.size w00 w) (hP : ∀ x ∈ P, w00.heap.size ≤ x ∧ x < w.heap.size) (lS : Li Kt.vals 0 c.ka L w00) :
    Calls Try.prog 55 #[.agg (unc c (.slice none 0 0)), .agg (pkc p), .agg (mbc o)] w fun e w' => ∃ v', e = .returned v' ∧ Rv P w.heap.size ⟨c.wCount (offO c.mem o p ⟨L, c.count, []⟩).c, (offO c.mem o p ⟨L, c.count, []⟩).L, (offO c.mem o p ⟨L, c.count, []⟩).t.map takeH⟩ v' w' ∧ Below w.heap.size w w' := by
  obtain ⟨iI, zI, hI, hz0, hsz, hby, hzs⟩ := infoHp
  have hlt := offO_tlen c.mem o p ⟨L, c.count, []⟩
  have pO := fun u h => roffersV_ok L c.ka c.kc c.count c.mem o p hc hl w00 u h lS
  obtain ⟨O, hO⟩ : ∃ O, offO c.mem o p ⟨L, c.count, []⟩ = O := ⟨_, rfl⟩
  rw [hO] at hlt pO ⊢
  replace hlt : O.t.length ≤ 0 + 3 := hlt
  clear hO
  obtain ⟨a0, a1, a2, a3, hB⟩ := four_blk (T0 := 83) (T1 := 50) (T2 := 29) (T3 := 83) (C0 := unc c (.slice none 0 0)) (C1 := pkc p) (C2 := mbc o) (C3 := unc Co.zero (.slice none 0 0)) (w := w) rfl
  go_enter Try.func55, Try.ntmps55
  go_upto_region 1 with (go_big_may; refine alloc_zero zeroSg rfl rfl ?_)
  try simp only [Act.put, List.setIfInBounds_toArray, List.set_cons_zero, List.set_cons_succ]
  try simp only [alloc_size]
  generalize (((w.alloc (Obj.cells (unc c (.slice none 0 0)) 83)).alloc (Obj.cells (pkc p) 50)).alloc (Obj.cells (mbc o) 29)).alloc (Obj.cells (unc Co.zero (.slice none 0 0)) 83) = W at a0 a1 a2 a3 hB ⊢
  obtain ⟨q, hq⟩ : ∃ q, w.heap.size = q := ⟨_, rfl⟩
  rw [hq] at a0 a1 a2 a3 hP ⊢
  have c0 : W.cell? ⟨q, 39, none⟩ = some (.slice c.ka L.length c.kc) := (a0.cell 39 (.slice c.ka c.kn c.kc) rfl).trans (by rw [hn])
  have hW3 := a3.lt
  have h00' := h00.trans (hB.mono h00.size)
  go_wp2_with (first | refine load_part rfl 29 _ rfl (o := 31) a0 rfl (row8 c.count) (un_count _ _) Try.underlying29 rfl sizeCt ?_ | refine load_part rfl 28 _ rfl (o := 23) a0 rfl (row8 c.mem) (un_mem _ _) Try.underlying28 rfl sizeMb ?_ | refine load_blk rfl 50 _ rfl a1 rfl Try.underlying50 rfl sizePk ?_ | refine load_blk rfl 29 _ rfl a2 rfl Try.underlying29 rfl sizeCt ?_)
  refine (pO _ h00').mono ?_
  rintro r w1 ⟨⟨a5, k5, b5, j5, rfl, hL0, hT⟩, hb⟩
  have hL : Li Kt.vals 0 a5 O.L w1 := by
    rcases hL0 with h | h
    · exact h.below (h00'.trans (hb.mono h00'.size))
    · exact h.mono (Nat.zero_le _)
  have hoff : ∀ x, w00.heap.size ≤ x → x < W.heap.size → Off a5 O.L x := fun x h1 h2 => by
    rcases hL0 with h | h
    · exact Off.li h x (.inr h1)
    · exact Off.li h x (.inl h2)
  have hq0 := h00.size
  have oqL := hoff q (by omega) (by omega)
  have o3L := hoff (q + 1 + 1 + 1) (by omega) hW3
  have oqT := Off.li hT q (.inl (by omega))
  have o3T := Off.li hT (q + 1 + 1 + 1) (.inl hW3)
  have oPL : ∀ x ∈ P, Off a5 O.L x := fun x hx => by have := hP x hx; exact hoff x this.1 (by omega)
  replace hT := hT.mono (Nat.zero_le _)
  replace a0 := a0.below hb
  replace a3 := a3.below hb
  replace hB := hB.trans (hb.mono hB.size)
  clear hb hoff hL0 c0 pO a1 a2
  have hb := below_box w1 (.cells (mbc O.c) 29)
  have t0 := blk_new w1 (mbc O.c) 29
  have h_t := a3.lt
  go_upto_region 2 with (go_big_may; first | refine alloc_zero zeroCt rfl rfl ?_ | refine store_new rfl 29 _ _ rfl (cells := mbc O.c) rfl rfl sizeCt rfl (mbc_one _) ?_)
  try simp only [Act.put, List.setIfInBounds_toArray, List.set_cons_zero, List.set_cons_succ]
  generalize w1.alloc (Obj.cells (mbc O.c) 29) = W1 at t0 hb ⊢
  replace a0 := a0.below hb
  replace a3 := a3.below hb
  replace hL := hL.below hb
  replace hT := hT.below hb
  replace hB := hB.trans (hb.mono hB.size)
  clear hb 
  generalize w1.heap.size = tt at t0 h_t ⊢
  go_upto_region 3 with (go_big_may; (refine store_one rfl 30 _ _ rfl (off := 39) (.slice a5 O.L.length k5) a0 rfl rfl rfl rfl sizeSl (by rw [unc_size]; decide) ?_; intro w2 b2 k2; rw [unc_set _ _ _ 39 _ (Co.s_kept c a5 O.L.length k5) (by decide)] at b2))
  try simp only [Act.put]
  replace a3 := a3.kp1 k2 (by omega)
  replace t0 := t0.kp1 k2 (by omega)
  replace hB := hB.trans (k2.below1 (by omega) hB.size)
  replace hL := hL.off k2 (fun p hp => by simp at hp; subst hp; exact oqL)
  replace hT := hT.off k2 (fun p hp => by simp at hp; subst hp; exact oqT)
  clear k2 a0
  obtain ⟨c2, hc2, y2⟩ := name_blk b2
  clear b2
  go_upto_region 4 with (go_big_may; first | refine load_blk rfl 29 _ rfl t0 rfl Try.underlying29 rfl sizeCt ?_ | (refine store_part rfl 29 _ _ rfl (off := 31) (cells := (mbc O.c)) y2 rfl rfl sizeCt (show 31 + 8 ≤ 190 by decide) (mbc_one _) ?_; intro w3 b3 k3; rw [unc_put _ _ _ 31 _ (Co.s_count c2 O.c) (show 31 + 8 ≤ 189 by decide)] at b3))
  try simp only [Act.put]
  replace a3 := a3.kp1 k3 (by omega)
  replace hB := hB.trans (k3.below1 (by omega) hB.size)
  replace hL := hL.off k3 (fun p hp => by simp at hp; subst hp; exact oqL)
  replace hT := hT.off k3 (fun p hp => by simp at hp; subst hp; exact oqT)
  clear k3 y2 t0
  obtain ⟨c3, hc3, y3⟩ := name_blk b3
  clear b3
  have Hc3 : Hid (c3 = (c.wCount O.c).kp a5 O.L.length k5) := by
    show c3 = _
    rw [← hc3.out, ← hc2.out]
    rfl
  clear hc2 hc3
  obtain ⟨n, hnT⟩ : ∃ n, O.t.length = n := ⟨_, rfl⟩
  have HT : Hid (O.t.length = n) := hnT
  rw [hnT] at hlt ⊢
  clear hnT
  go_upto_region 5 with fail
  have oL : ∀ g, w3.heap.size ≤ g → Off a5 O.L g := fun g hg => Off.li hL g (.inr hg)
  have oT : ∀ g, w3.heap.size ≤ g → Off b5 O.t g := fun g hg => Off.li hT g (.inr hg)
  have h3l := a3.lt
  go_loopw [10] (fun iv wr => ∃ (i : Nat) (ta : Option Addr) (tk : Nat), i ≤ n ∧ iv = .int .i64 i ∧ Blk q (unc c3 (.slice ta i tk)) 83 wr ∧ Blk (q + 1 + 1 + 1) (unc Co.zero (.slice none 0 0)) 83 wr ∧ Lg Hp.vals 50 66 (q + 1 + 1 + 1 + 1) ta tk ((O.t.take i).map takeH) wr ∧ Li Kt.vals 0 a5 O.L wr ∧ Li Kt.vals 0 b5 O.t wr ∧ Below w.heap.size w wr ∧ w3.heap.size ≤ wr.heap.size ∧ ∀ g ∈ blkOf ta, w3.heap.size ≤ g) (fun iv _ => 20 - (intOf iv).toNat)
  case atStart => exact ⟨0, none, 0, by omega, rfl, y3, a3, Lg.none _ _ _, hL, hT, hB, Nat.le_refl _, fun g hg => by cases hg⟩
  case round =>
    clear y3 a3 hL hT hB
    obtain ⟨i, ta, tk, hi, rfl, y0, a3, hG, hL, hT, hB, hVl, hgw⟩ := hrel
    rename World => V
    by_cases hin : i < n
    · have j0 : (i : Int) < (n : Int) := by omega
      have j1 : (0 : Int) ≤ (i : Int) := by omega
      obtain ⟨x, hk⟩ : ∃ k, O.t[i]? = some k := ⟨_, List.getElem?_eq_getElem (by rw [HT.out]; exact hin)⟩
      obtain ⟨eb, eo, rfl, _, hbl, _⟩ := hT.at Kt.vals_length i x hk
      have hstep : (O.t.take (i + 1)).map takeH = (O.t.take i).map takeH ++ [takeH x] := by rw [List.take_add_one, hk]; simp
      have hlen : ((O.t.take i).map takeH).length = i := by rw [List.length_map, List.length_take, HT.out]; omega
      have hty : q ∉ blkOf ta := fun hm => by have := hgw _ hm; omega
      have ht3 : q + 1 + 1 + 1 ∉ blkOf ta := fun hm => by have := hgw _ hm; omega
      have htL : ∀ g ∈ blkOf ta, Off a5 O.L g := fun g hg => oL g (hgw g hg)
      have htT : ∀ g ∈ blkOf ta, Off (some ⟨eb, eo, none⟩) O.t g := fun g hg => oT g (hgw g hg)
      have hgin : ∀ j ∈ blkOf ta, w3.heap.size ≤ j := hgw
      go_upto_region 7 with fail
      replace y0 := y0.drew
      replace a3 := a3.drew
      replace hG := hG.below (Below.refl _ _).drew
      replace hL := hL.below (Below.refl _ _).drew
      replace hB := hB.drew
      refine wp_region_held_drew (S := fun w' => Li Kt.vals 0 (some ⟨eb, eo, none⟩) O.t w') (by kernel_rfl) (hT.below (Below.refl _ _).drew) (fun hHeld => ?_)
      refine tkH 0 (v := ?v1) rfl (by kernel_rfl) (fun _ _ _ h => h) (Or.inl ⟨by rfl, ?hy1⟩) hHeld ?rest1
      case hy1 => (intro w hSw; clear hSw; go_simp; try with_reducible rfl)
      try simp only [List.getElem_toArray, List.getElem_cons_succ, List.getElem_cons_zero, Act.put, List.setIfInBounds_toArray, List.set_cons_succ, List.set_cons_zero]
      refine tkH 2 (v := ?v2) rfl (by kernel_rfl) (fun _ _ _ h => h) (Or.inl ⟨by rfl, ?hy2⟩) hHeld ?rest2
      case hy2 => (intro w hSw; clear hSw; go_simp; try with_reducible rfl)
      try simp only [List.getElem_toArray, List.getElem_cons_succ, List.getElem_cons_zero, Act.put, List.setIfInBounds_toArray, List.set_cons_succ, List.set_cons_zero]
      refine tkH 3 (v := ?v3) rfl (by kernel_rfl) (fun _ _ _ h => h) (Or.inl ⟨by rfl, ?hy3⟩) hHeld ?rest3
      case hy3 => (intro w hSw; clear hSw; go_simp; try with_reducible rfl)
      try simp only [List.getElem_toArray, List.getElem_cons_succ, List.getElem_cons_zero, Act.put, List.setIfInBounds_toArray, List.set_cons_succ, List.set_cons_zero]
      refine tkH 4 (v := ?v4) rfl (by kernel_rfl) (fun _ _ _ h => h) (Or.inl ⟨by rfl, ?hy4⟩) hHeld ?rest4
      case hy4 => (intro w hSw; clear hSw; go_simp; try with_reducible rfl)
      try simp only [List.getElem_toArray, List.getElem_cons_succ, List.getElem_cons_zero, Act.put, List.setIfInBounds_toArray, List.set_cons_succ, List.set_cons_zero]
      refine' tkH 5 (v := _) rfl (by kernel_rfl) (fun _ _ _ h => h) (yieldsIf_load_mid (by rfl) _ _ rfl eb (eo + i * 38) rfl x.vals _ ?hS5 Try.underlying64 rfl sizeKt) hHeld ?rest5
      case hS5 => exact fun w h => h.rng Kt.vals_length i x hk
      try simp only [List.getElem_toArray, List.getElem_cons_succ, List.getElem_cons_zero, Act.put, List.setIfInBounds_toArray, List.set_cons_succ, List.set_cons_zero]
      refine tkH 6 (v := .agg (takeH x).arr) rfl (by kernel_rfl) (fun _ _ _ h => h) (yields_build (by rfl) 66 #[(1, .tmp 44)] rfl (by kernel_rfl)) hHeld ?rest6
      try simp only [List.getElem_toArray, List.getElem_cons_succ, List.getElem_cons_zero, Act.put, List.setIfInBounds_toArray, List.set_cons_succ, List.set_cons_zero]
      refine wpAnyH_ready (rs := [1, 7]) (by kernel_rfl) (by simp) ?_
      refine AllReadyH.cons rfl (fun K hK => ?_) (AllReadyH.cons rfl (fun K hK => ?_) (AllReadyH.nil))
      · rw [if_pos (by rfl)]
        refine wp_load_cell 44 _ rfl (.slice ta i tk) rfl (y0.cell 189 _ rfl) Try.underlying44 rfl ?_
        refine hK.out _ _ hHeld (fun hHeld => ?_)
        clear hK K 
        try simp only [List.getElem_toArray, List.getElem_cons_succ, List.getElem_cons_zero, Act.put, List.setIfInBounds_toArray, List.set_cons_succ, List.set_cons_zero]
        refine wpAnyH_ready (rs := [7]) (by kernel_rfl) (by simp) ?_
        refine AllReadyH.cons rfl (fun K hK => ?_) (AllReadyH.nil)
        rw [if_pos (by rfl)]
        refine wp_hp _ rfl (takeH x) rfl ?_
        intro g u2 hg1 hb hgl
        replace y0 := y0.below hb
        replace hG := hG.below hb
        replace a3 := a3.below hb
        replace hL := hL.below hb
        replace hB := hB.trans (hb.mono hB.size)
        have hVl1 := Nat.le_trans hVl hb.size
        refine hK.out _ _ (hHeld.below hb) (fun hHeld => ?_)
        clear hK K hb hgl
        try simp only [List.getElem_toArray, List.getElem_cons_succ, List.getElem_cons_zero, Act.put, List.setIfInBounds_toArray, List.set_cons_succ, List.set_cons_zero]
        refine wpAnyH_ready (rs := [8]) (by kernel_rfl) (by simp) ?_
        refine AllReadyH.cons rfl (fun K hK => ?_) (AllReadyH.nil)
        rw [if_pos (by rfl)]
        have hx := (li_one hg1).src (P := Try.prog) Hp.vals_length Hp.vals_one Try.underlying44 1
        have hyl := y0.lt
        refine wp_append_ln Hp.vals_length _ _ rfl Try.underlying44 hI hz0 hsz hby hzs hG (Nat.succ_le_of_lt a3.lt) hlen rfl (M := [takeH x]) (by simp) hx rfl (by simp; omega) (by simp [maxLen]; omega) ?_
        intro td tj u3 hG' hk' hA'
        have hVl2 := Nat.le_trans hVl1 hk'.size
        replace y0 := y0.kp hk' hty
        replace a3 := a3.kp hk' ht3
        replace hL := hL.off hk' htL
        replace hB := hB.trans (hk'.below (fun j hj => by have := hgin j hj; omega) hB.size)
        have hgw' : ∀ g ∈ blkOf td, w3.heap.size ≤ g := fun g hm => by
          rcases hA' _ hm with h | h
          · exact hgin g h
          · omega
        have hdy : q ∉ blkOf td := fun hm => by
          rcases hA' _ hm with h | h
          · exact hty h
          · omega
        have hd3 : q + 1 + 1 + 1 ∉ blkOf td := fun hm => by
          rcases hA' _ hm with h | h
          · exact ht3 h
          · omega
        refine hK.out _ _ (hHeld.off hk' htT) (fun hHeld => ?_)
        clear hK K hx hg1 hG hA'
        try simp only [List.getElem_toArray, List.getElem_cons_succ, List.getElem_cons_zero, Act.put, List.setIfInBounds_toArray, List.set_cons_succ, List.set_cons_zero]
        refine tkH 9 (v := ?v7) rfl (by kernel_rfl) (fun _ _ _ h => h) (Or.inl ⟨by rfl, ?hy7⟩) hHeld ?rest7
        case hy7 => (intro w hSw; clear hSw; go_simp; try with_reducible rfl)
        try simp only [List.getElem_toArray, List.getElem_cons_succ, List.getElem_cons_zero, Act.put, List.setIfInBounds_toArray, List.set_cons_succ, List.set_cons_zero]
        refine wpAnyH_ready (rs := [10]) (by kernel_rfl) (by simp) ?_
        refine AllReadyH.cons rfl (fun K hK => ?_) (AllReadyH.nil)
        rw [if_pos (by rfl)]
        refine wp_store_one 44 _ _ rfl (off := 189) (.slice td (i + 1) tj) y0 rfl rfl rfl rfl sizeHs (by rw [unc_size]; decide) ?_
        intro u4 hn9 hk9
        rw [unc_told] at hn9
        have hVl3 := Nat.le_trans hVl2 hk9.size
        replace y0 := hn9
        replace hG' := hG'.away hk9 hdy
        replace a3 := a3.kp1 hk9 (by omega)
        replace hL := hL.off hk9 (fun p hp => by simp at hp; subst hp; exact oqL)
        replace hB := hB.trans (hk9.below1 (by omega) hB.size)
        refine hK.out _ _ (hHeld.off hk9 (fun p hp => by simp at hp; subst hp; exact oqT)) (fun hHeld => ?_)
        clear hK K hk9 hn9 hdy hd3
        try simp only [List.getElem_toArray, List.getElem_cons_succ, List.getElem_cons_zero, Act.put, List.setIfInBounds_toArray, List.set_cons_succ, List.set_cons_zero]
        refine wpAnyH_done (by kernel_rfl) ?_ _
        go_wp2_with fail
        exact ⟨⟨i + 1, td, tj, by omega, by go_num, y0, a3, (by rw [hstep]; exact hG'), hL, hHeld, hB, hVl3, hgw'⟩, by simp [intOf]; omega⟩
      · rw [if_pos (by rfl)]
        refine wp_hp _ rfl (takeH x) rfl ?_
        intro g u5 hg1 hb hgl
        replace y0 := y0.below hb
        replace hG := hG.below hb
        replace a3 := a3.below hb
        replace hL := hL.below hb
        replace hB := hB.trans (hb.mono hB.size)
        have hVl1 := Nat.le_trans hVl hb.size
        refine hK.out _ _ (hHeld.below hb) (fun hHeld => ?_)
        clear hK K hb hgl
        try simp only [List.getElem_toArray, List.getElem_cons_succ, List.getElem_cons_zero, Act.put, List.setIfInBounds_toArray, List.set_cons_succ, List.set_cons_zero]
        refine wpAnyH_ready (rs := [1]) (by kernel_rfl) (by simp) ?_
        refine AllReadyH.cons rfl (fun K hK => ?_) (AllReadyH.nil)
        rw [if_pos (by rfl)]
        refine wp_load_cell 44 _ rfl (.slice ta i tk) rfl (y0.cell 189 _ rfl) Try.underlying44 rfl ?_
        refine hK.out _ _ hHeld (fun hHeld => ?_)
        clear hK K 
        try simp only [List.getElem_toArray, List.getElem_cons_succ, List.getElem_cons_zero, Act.put, List.setIfInBounds_toArray, List.set_cons_succ, List.set_cons_zero]
        refine wpAnyH_ready (rs := [8]) (by kernel_rfl) (by simp) ?_
        refine AllReadyH.cons rfl (fun K hK => ?_) (AllReadyH.nil)
        rw [if_pos (by rfl)]
        have hx := (li_one hg1).src (P := Try.prog) Hp.vals_length Hp.vals_one Try.underlying44 1
        have hyl := y0.lt
        refine wp_append_ln Hp.vals_length _ _ rfl Try.underlying44 hI hz0 hsz hby hzs hG (Nat.succ_le_of_lt a3.lt) hlen rfl (M := [takeH x]) (by simp) hx rfl (by simp; omega) (by simp [maxLen]; omega) ?_
        intro td tj u7 hG' hk' hA'
        have hVl2 := Nat.le_trans hVl1 hk'.size
        replace y0 := y0.kp hk' hty
        replace a3 := a3.kp hk' ht3
        replace hL := hL.off hk' htL
        replace hB := hB.trans (hk'.below (fun j hj => by have := hgin j hj; omega) hB.size)
        have hgw' : ∀ g ∈ blkOf td, w3.heap.size ≤ g := fun g hm => by
          rcases hA' _ hm with h | h
          · exact hgin g h
          · omega
        have hdy : q ∉ blkOf td := fun hm => by
          rcases hA' _ hm with h | h
          · exact hty h
          · omega
        have hd3 : q + 1 + 1 + 1 ∉ blkOf td := fun hm => by
          rcases hA' _ hm with h | h
          · exact ht3 h
          · omega
        refine hK.out _ _ (hHeld.off hk' htT) (fun hHeld => ?_)
        clear hK K hx hg1 hG hA'
        try simp only [List.getElem_toArray, List.getElem_cons_succ, List.getElem_cons_zero, Act.put, List.setIfInBounds_toArray, List.set_cons_succ, List.set_cons_zero]
        refine tkH 9 (v := ?v8) rfl (by kernel_rfl) (fun _ _ _ h => h) (Or.inl ⟨by rfl, ?hy8⟩) hHeld ?rest8
        case hy8 => (intro w hSw; clear hSw; go_simp; try with_reducible rfl)
        try simp only [List.getElem_toArray, List.getElem_cons_succ, List.getElem_cons_zero, Act.put, List.setIfInBounds_toArray, List.set_cons_succ, List.set_cons_zero]
        refine wpAnyH_ready (rs := [10]) (by kernel_rfl) (by simp) ?_
        refine AllReadyH.cons rfl (fun K hK => ?_) (AllReadyH.nil)
        rw [if_pos (by rfl)]
        refine wp_store_one 44 _ _ rfl (off := 189) (.slice td (i + 1) tj) y0 rfl rfl rfl rfl sizeHs (by rw [unc_size]; decide) ?_
        intro u8 hn9 hk9
        rw [unc_told] at hn9
        have hVl3 := Nat.le_trans hVl2 hk9.size
        replace y0 := hn9
        replace hG' := hG'.away hk9 hdy
        replace a3 := a3.kp1 hk9 (by omega)
        replace hL := hL.off hk9 (fun p hp => by simp at hp; subst hp; exact oqL)
        replace hB := hB.trans (hk9.below1 (by omega) hB.size)
        refine hK.out _ _ (hHeld.off hk9 (fun p hp => by simp at hp; subst hp; exact oqT)) (fun hHeld => ?_)
        clear hK K hk9 hn9 hdy hd3
        try simp only [List.getElem_toArray, List.getElem_cons_succ, List.getElem_cons_zero, Act.put, List.setIfInBounds_toArray, List.set_cons_succ, List.set_cons_zero]
        refine wpAnyH_done (by kernel_rfl) ?_ _
        go_wp2_with fail
        exact ⟨⟨i + 1, td, tj, by omega, by go_num, y0, a3, (by rw [hstep]; exact hG'), hL, hHeld, hB, hVl3, hgw'⟩, by simp [intOf]; omega⟩
    · have j0 : ¬ (i : Int) < (n : Int) := by omega
      obtain rfl : i = n := by omega
      have hfull : O.t.take i = O.t := List.take_of_length_le (by rw [HT.out]; omega)
      rw [hfull] at hG
      have h3T : q + 1 + 1 + 1 ∉ blkOf ta := fun hm => by have := hgw _ hm; omega
      go_wp2_with (first | refine load_blk rfl 83 _ rfl y0 rfl Try.underlying83 rfl sizeSg ?_ | (refine store_part rfl 83 _ _ rfl (off := 0) (cells := unc c3 (.slice ta i tk)) a3 rfl rfl sizeSg (Nat.le_refl _) (unc_one _ _ _ _) ?_; intro w9 b9 k9; rw [unc_all] at b9))
      replace hL := hL.off k9 (fun p hp => by simp at hp; subst hp; exact o3L)
      replace hG := hG.away k9 h3T
      replace hB := hB.trans (k9.below1 (by omega) hB.size)
      refine bodyPost_ret (w := w9) (v := .agg (unc c3 (.slice ta i tk))) (ret_one rfl rfl b9 Try.underlying83 rfl sizeSg) rfl ⟨_, rfl, ?_, by rw [← hq]; exact hB⟩
      refine ⟨a5, k5, ta, tk, ?_, hL, hG.low (by omega), fun g hg => oL g (hgw g hg), oPL⟩
      show _ = Value.agg (unc ((c.wCount O.c).kp a5 O.L.length k5) (.slice ta (O.t.map takeH).length tk))
      rw [← Hc3.out, List.length_map, HT.out]

end Go.Proofs.Ythgmecgknhphmaa
