/-
  Of the texts beneath these laws, in their order: ClE, ClF.
  Each theorem says its own conditions.
-/
import Derived.Test.YthgfpdidilolgaaGreatZ27
import Derived.Test.YthgfpdidilolgaaGreatZ25
namespace Go.Proofs.YthgfpdidilolgaaGreat
set_option maxRecDepth 10000
set_option linter.unusedSimpArgs false
open Go.RowKit Go.Sort
set_option linter.unusedVariables false
theorem range_sub {b o : Nat} {cs ds : List Value} {w : World} (h : w.rangeAt b o cs) (k : Nat) (hd : ∀ j v, ds[j]? = some v → cs[k + j]? = some v) : w.rangeAt b (o + k) ds := fun j v hv => by
 have := h (k + j) v (hd j v hv)
 rw [← Nat.add_assoc] at this
 exact this
theorem conf_in (x : Co × List Kt) : ∀ j v, x.1.conf.vals[j]? = some v → (cov x)[20 + j]? = some v := by
 intro j v h
 match j with
 | 0 => exact h
 | 1 => exact h
 | 2 => exact h
 | j + 3 => simp [Idn.vals] at h
theorem Uc.tell {P : Nat} {S : Cs} {g cc u uc : Nat} {la : Option Addr} {lc : Nat} {ta ta' : Option Addr} {tc tc' : Nat} {w w1 W : World} (h : Uc P S g cc u uc la lc ta tc w) (M : List Td) (hk : Kp (blkOf ta) w w1) (ht : Lg Td.vals 55 59 0 ta' tc' M w1)
  (hA : ∀ A ∈ blkOf ta', A ∈ blkOf ta ∨ w.heap.size ≤ A) (hk2 : Kp [P] w1 W)
  (hb : Blk P (uac S.wait (.slice (some ⟨g, 0, none⟩) S.cs.length cc) (.slice (some ⟨u, 0, none⟩) S.up.length uc) (.slice la S.ls.length lc) (.slice ta' M.length tc')) 86 W) : Uc P ⟨S.wait, S.cs, S.up, S.ls, M⟩ g cc u uc la lc ta' tc' W := by
 have hlt := h.lt
 have nn : ∀ b, b ∉ blkOf ta → b < w.heap.size → b ∉ blkOf ta' := fun b h1 h2 h3 => by
  rcases hA b h3 with a | a
  ·exact h1 a
  ·omega
 have mw : ∀ b ∈ wbs P g u ta', b ∈ wbs P g u ta ∨ w.heap.size ≤ b := fun b hb => by
  simp only [wbs, List.mem_cons] at hb ⊢
  rcases hb with h | h | h | h
  ·exact .inl (.inl h)
  ·exact .inl (.inr (.inl h))
  ·exact .inl (.inr (.inr (.inl h)))
  ·exact (hA b h).imp (fun h => .inr (.inr (.inr h))) id
 have n3 : P ∉ blkOf ta' := nn P h.n2.1 h.fb.lt
 have hoT : ∀ b ∈ blkOf ta, b ∈ wbs P g u ta := fun b hb => by simp [wbs, hb]
 have mP : P ∈ wbs P g u ta := by simp [wbs]
 refine ⟨hb, (h.fc.kp hk h.n2.2.1).kp hk2 (by simp; exact fun e => h.n1.1 e.symm), (h.fu.kp hk h.n2.2.2).kp hk2 (by simp; exact fun e => h.n1.2.1 e.symm), (h.fl.off hk fun b hb => h.flo b (hoT b hb)).off hk2 (by simpa using h.flo P mP), h.flc,
  ht.kpo hk2 (fun j hj e => by simp at e; subst e; exact n3 hj), fun x hx => ?_, fun b hb => ?_, h.n1, n3, nn g h.n2.2.1 h.fc.lt, nn u h.n2.2.2 h.fu.lt⟩
 ·obtain ⟨a, b, c⟩ := h.fk x hx
  refine ⟨a, (b.off hk fun y hy => c y (hoT y hy)).off hk2 (by simpa using c P mP), fun y hy => ?_⟩
  rcases mw y hy with e | e
  ·exact c y e
  ·exact Off.li b y (.inr e)
 ·rcases mw b hb with e | e
  ·exact h.flo b e
  ·exact Off.li h.fl b (.inr e)
theorem uac_told (wt : Int) (c u l t v : Value) : (uac wt c u l t).setIfInBounds 4 v = uac wt c u l v := rfl
theorem tells_next (i n : Nat) (I : Idn) (hs : List Hp) (j : Nat) (y : Hp) (hy : hs[j]? = some y) : tells i n I (hs.take (j + 1)) = tells i n I (hs.take j) ++ [⟨i, n, inOf I (hs.take j), y⟩] ∧ inOf I (hs.take (j + 1)) = if y.view = true then y.conf else inOf I (hs.take j) := by
 rw [List.take_add_one, hy, Option.toList_some, tells_app, inOf_app]
 exact ⟨rfl, rfl⟩
theorem tells_len (i n : Nat) : ∀ (l : List Hp) (I : Idn), (tells i n I l).length = l.length
 | [], _ => rfl
 | _ :: l, _ => congrArg (· + 1) (tells_len i n l _)
theorem Uc.other {P : Nat} {S : Cs} {g cc u uc : Nat} {la : Option Addr} {lc : Nat} {ta : Option Addr} {tc : Nat} {w W : World} (h : Uc P S g cc u uc la lc ta tc w) {r : Nat} (hk : Kp [r] w W) (hr : r ∉ wbs P g u ta) (hc : ∀ x ∈ S.cs, Off x.1.ka x.2 r) (hl : Off la S.ls r) : Uc P S g cc u uc la lc ta tc W := by
 simp only [wbs, List.mem_cons, not_or] at hr
 obtain ⟨r1, r2, r3, r4⟩ := hr
 exact ⟨h.fb.kp1 hk (Ne.symm r1), h.fc.kp hk (by simpa using Ne.symm r2), h.fu.kp hk (by simpa using Ne.symm r3), h.fl.off hk (by simpa using hl), h.flc, h.ft.kpo hk (fun j hj e => by simp at e; subst e; exact r4 hj), fun x hx => ⟨(h.fk x hx).1, (h.fk x hx).2.1.off hk (by simpa using hc x hx), (h.fk x hx).2.2⟩, h.flo, h.n1, h.n2⟩
theorem Kp.also {X Y : List Nat} {u w w' : World} (h : Kp X u w) (k : Kp Y w w') (hY : ∀ b ∈ Y, b ∈ X ∨ u.heap.size ≤ b) : Kp X u w' :=
 ⟨k.os.trans h.os, k.tape.trans h.tape, k.output.trans h.output, Nat.le_trans h.size k.size, fun b hb hn => (k.block b (Nat.lt_of_lt_of_le hb h.size) fun hm => by
  rcases hY b hm with e | e
  ·exact hn e
  ·omega).trans (h.block b hb hn)⟩
def becS (S : Cs) (i : Nat) (c : Co) (L : List Kt) (I : Idn) (hs : List Hp) : Cs := ⟨S.wait, S.cs.set i (c, L), S.up, S.ls, S.t ++ tells i c.own I hs⟩
set_option maxHeartbeats 8000000 in
theorem become_ok {P : Nat} {S : Cs} {g cc u uc : Nat} {la : Option Addr} {lc : Nat} {ta : Option Addr} {tc : Nat} {w : World} (h : Uc P S g cc u uc la lc ta tc w) (i : Nat) (hi : i < S.cs.length) (x : Co × List Kt) (hx : S.cs[i]? = some x) (c : Co) (L : List Kt) (hs : List Hp) (ha : Option Addr) (hk : Nat)
  (hcn : c.kn = L.length) (hL : Li Kt.vals (g + 1) c.ka L w) (hLo : ∀ b ∈ wbs P g u ta, Off c.ka L b) (hH : Li Hp.vals 0 ha hs w) (hHo : ∀ b ∈ wbs P g u ta, Off ha hs b) (hz : (S.t.length + hs.length) * 432 ≤ 140737488351232) :
  Calls Tryz.prog 63 #[.pointer (some ⟨P, 0, none⟩), .int .i64 (i : Int), .agg (coc c), .slice ha hs.length hk] w fun e w' => e = .returned (.tuple #[]) ∧
   ∃ ta' tc', Uc P (becS S i c L x.1.conf hs) g cc u uc la lc ta' tc' w' ∧ Kp (wbs P g u ta) w w' ∧ ∀ b ∈ blkOf ta', b ∈ blkOf ta ∨ w.heap.size ≤ b := by
 obtain ⟨iI, zI, hI, hz0, hsz, hby, hzs⟩ := infoTd
 have hr20 := range_sub (h.fc.at cov_length i x hx) 20 (conf_in x)
 obtain ⟨n, en⟩ : ∃ n, Hid (S.cs.length = n) := ⟨_, rfl⟩
 obtain ⟨nh, enh⟩ : ∃ nh, Hid (hs.length = nh) := ⟨_, rfl⟩
 obtain ⟨wt, ew⟩ : ∃ wt, Hid (S.wait = wt) := ⟨_, rfl⟩
 obtain ⟨o, eo⟩ : ∃ o, Hid (c.own = o) := ⟨_, rfl⟩
 have c1 : w.cell? ⟨P, 1, none⟩ = some (.slice (some ⟨g, 0, none⟩) n cc) := by rw [← en.out]; exact h.fb.cell 1 _ rfl
 have hin : i < n := by rw [← en.out]; exact hi
 rw [enh.out] at hz ⊢
 have lP := h.fb.lt
 have lg := h.fc.lt
 have lu := h.fu.lt
 have b1 := blk_new w (coc c) 78
 have hB := below_box w (.cells (coc c) 78)
 have w1 : w.heap.size < (w.alloc (.cells (coc c) 78)).heap.size := by simp
 go_enter Tryz.func63, Tryz.ntmps63
 go_upto_region 1 with fail
 generalize w.alloc (Obj.cells (coc c) 78) = W1 at b1 hB w1 ⊢
 replace hr20 := range_block hr20 (hB.block g lg)
 replace c1 : W1.cell? ⟨P, 1, none⟩ = some (.slice (some ⟨g, 0, none⟩) n cc) := (hB.cell (p := ⟨P, 1, none⟩) lP).trans c1
 have b2 := blk_new W1 x.1.conf.arr 51
 have hB2 := below_box W1 (.cells x.1.conf.arr 51)
 go_upto_region 2 with (go_big_may; first | refine load_range rfl 51 _ rfl (o := i * 189 + 20) x.1.conf.vals hr20 rfl Tryz.underlying51 rfl sizeIdn ?_ | refine alloc_zero zeroIdn rfl rfl ?_ | refine store_new rfl 51 _ _ rfl (cells := x.1.conf.arr) rfl rfl sizeIdn rfl (Idn.arr_one _) ?_)
 try simp only [Act.put, List.setIfInBounds_toArray, List.set_cons_zero, List.set_cons_succ]
 clear c1 hr20
 generalize W1.alloc (Obj.cells x.1.conf.arr 51) = V at b2 hB2 ⊢
 replace b1 := b1.below hB2
 replace hB := hB.trans (hB2.mono hB.size)
 clear hB2
 have h0H := hH
 have hL0 := hL
 have hU := (h.below hB).below (Below.refl _ _).drew
 replace hL := (hL.below hB).below (Below.refl _ _).drew
 replace hH := (hH.below hB).below (Below.refl _ _).drew
 have kU : Kp (wbs P g u ta) w V.drew := (Kp.of_below hB).trans (Kp.drew _ _)
 obtain ⟨v2, e2⟩ : ∃ v, Hid (Value.slice (some ⟨u, 0, none⟩) S.up.length uc = v) := ⟨_, rfl⟩
 obtain ⟨v3, e3⟩ : ∃ v, Hid (Value.slice la S.ls.length lc = v) := ⟨_, rfl⟩
 obtain ⟨v4, e4⟩ : ∃ v, Hid (Value.slice ta S.t.length tc = v) := ⟨_, rfl⟩
 have hbP : Blk P (uac wt (.slice (some ⟨g, 0, none⟩) n cc) v2 v3 v4) 86 V := by
  have := h.fb.below hB
  rw [en.out, ew.out, e2.out, e3.out, e4.out] at this
  exact this
 obtain ⟨Cg, hCg, _⟩ := hU.fc
 have hzg := hU.fc.size1 hCg i hi
 refine wp_region_held_drew (S := fun w' => Blk P (uac wt (.slice (some ⟨g, 0, none⟩) n cc) v2 v3 v4) 86 w' ∧ Blk w.heap.size (coc c) 78 w') (by kernel_rfl) ⟨hbP.drew, b1.drew⟩ (fun hHeld => ?_)
 refine tkQ 0 hHeld ?_
 try simp only [yy]
 refine tkQ 1 hHeld ?_
 try simp only [yy]
 refine tkQ 2 hHeld ?_
 try simp only [yy]
 refine tkQ 3 hHeld ?_
 try simp only [yy]
 refine tkH 4 (v := ?v5) rfl (by kernel_rfl) (fun _ _ _ h => h) (Or.inl ⟨by rfl, ?hy5⟩) hHeld ?_
 case hy5 => (intro w hSw; have hc : w.cell? ⟨P, 1, none⟩ = some (.slice (some ⟨g, 0, none⟩) n cc) := hSw.1.cell 1 _ rfl; clear hSw; go_simp; try with_reducible rfl)
 try simp only [yy]
 refine tkQ 5 hHeld ?_
 try simp only [yy]
 refine' tkH 6 (v := _) rfl (by kernel_rfl) (fun _ _ _ h => h) (yieldsIf_load_mid (by rfl) _ _ rfl w.heap.size 0 rfl (col c) _ ?hS7 Tryz.underlying78 rfl sizeCo) hHeld ?_
 case hS7 => exact fun w h => h.2.whole
 try simp only [yy]
 refine tkQ 7 hHeld ?_
 try simp only [yy]
 refine rd1 8 (fun K hK => ?_)
 rw [if_pos (by rfl)]
 refine wp_store_part 78 _ _ rfl (off := i * 189) (cells := coc c) hCg rfl rfl sizeCo hzg (coc_one _) ?_
 intro u1 hn9 hk9
 replace hU := hU.setCore i c L hk9 (hU.fc.put cov_length (by decide) i hi (c, L) hCg hn9) hcn hL hLo
 replace kU := kU.trans (hk9.mono (by simp [wbs]))
 refine hK.out _ _ ⟨hHeld.1.kp1 hk9 hU.n1.1, hHeld.2.kp1 hk9 (by omega)⟩ (fun hHeld => ?_)
 clear hK K hn9 hCg
 try simp only [yy]
 refine wpAnyH_done (by kernel_rfl) ?_ _
 replace b1 := hHeld.2
 replace b2 := b2.drew.kp1 hk9 (by omega)
 replace hH := hH.off hk9 (by simpa using hHo g (by simp [wbs]))
 clear hk9 hHeld hbP e2 e3 e4 hB hzg hL hLo
 go_wp2_with fail
 have hOr : (∀ y9 ∈ S.cs.set i (c, L), Off y9.1.ka y9.2 W1.heap.size) ∧ Off la S.ls W1.heap.size := ⟨fun y9 hy9 => by
   rcases List.mem_or_eq_of_mem_set hy9 with e | e
   ·exact Off.li (h.fk _ e).2.1 _ (.inr (Nat.le_of_lt w1))
   ·rw [e]; exact Off.li hL0 _ (.inr (Nat.le_of_lt w1)), Off.li h.fl _ (.inr (Nat.le_of_lt w1))⟩
 go_loopw [30] (fun iv wr => ∃ (j : Nat) (I : Idn) (T : List Td) (te : Option Addr) (tf : Nat), j ≤ nh ∧ iv = .int .i64 j ∧ Hid (T = S.t ++ tells i c.own x.1.conf (hs.take j) ∧ I = inOf x.1.conf (hs.take j)) ∧ Uc P ⟨S.wait, S.cs.set i (c, L), S.up, S.ls, T⟩ g cc u uc la lc te tf wr ∧ Blk w.heap.size (coc c) 78 wr ∧ Blk W1.heap.size I.arr 51 wr ∧ Li Hp.vals 0 ha hs wr ∧ Kp (wbs P g u ta) w wr ∧ (∀ b ∈ blkOf te, b ∈ blkOf ta ∨ W1.heap.size + 1 ≤ b) ∧ ∀ b ∈ wbs P g u te, Off ha hs b) (fun iv _ => nh - (intOf iv).toNat)
 case atStart =>
  exact ⟨0, x.1.conf, S.t, ta, tc, by omega, rfl, ⟨by simp [tells], rfl⟩, hU, b1, b2, hH, kU, fun b hb => .inl hb, hHo⟩
 case round =>
  clear hU b1 b2 hH kU
  obtain ⟨j, I, T, te, tf, hj, rfl, eTI, hU, b1, b2, hHu, kU, hAe, hOe⟩ := hrel
  obtain ⟨eT, eI⟩ := eTI.out
  by_cases hjn : j < nh
  ·have j0 : (j : Int) < (nh : Int) := by omega
   have j1 : (0 : Int) ≤ (j : Int) := by omega
   obtain ⟨y, hy⟩ : ∃ k, hs[j]? = some k := ⟨_, List.getElem?_eq_getElem (by rw [enh.out]; exact hjn)⟩
   obtain ⟨bh, of, rfl, _, hbl, hr⟩ := hHu.at Hp.vals_length j y hy
   have hb := below_box wr (.cells y.arr 57)
   have b3 := blk_new wr y.arr 57
   go_upto_region 6 with (go_big_may; first | refine load_range rfl 57 _ rfl (o := of + j * 50) y.vals hr rfl Tryz.underlying57 rfl sizeHp ?_ | refine alloc_zero zeroHp rfl rfl ?_ | refine store_new rfl 57 _ _ rfl (cells := y.arr) rfl rfl sizeHp rfl y.arr_one ?_)
   try simp only [Act.put, List.setIfInBounds_toArray, List.set_cons_zero, List.set_cons_succ]
   have lr := Nat.lt_of_lt_of_le b2.lt (Nat.le_refl _)
   have hq9 : ∀ p ∈ [w.heap.size, W1.heap.size, wr.heap.size], p ∉ blkOf te := fun p hp hm => by
    have h1 := (hU.ft.in p hm).2
    simp at hp
    rcases hAe p hm with e | e
    ·have := (h.ft.in p e).2; omega
    ·omega
   have hP9 : ∀ p ∈ [w.heap.size, W1.heap.size, wr.heap.size], p ≠ P := fun p hp e => by
    simp at hp
    omega
   generalize wr.alloc (Obj.cells y.arr 57) = W5 at b3 hb ⊢
   replace hU := (hU.below hb).below (Below.refl _ _).drew
   replace b1 := b1.below hb
   replace b2 := b2.below hb
   replace hHu := (hHu.below hb).below (Below.refl _ _).drew
   replace kU : Kp (wbs P g u ta) w W5.drew := (kU.trans (Kp.of_below hb)).trans (Kp.drew _ _)
   obtain ⟨nt, hnt⟩ : ∃ nt, Hid (T.length = nt) := ⟨_, rfl⟩
   have hz9 : (nt + 1) * 432 ≤ 140737488351232 := by
    rw [← hnt.out, eT, List.length_append, tells_len, List.length_take]
    have := enh.out
    omega
   have hj9 : (j : Int) + 1 < 9223372036854775807 := by omega
   clear hr hb hbl hz
   refine wp_region_held_drew (S := fun w' => Blk w.heap.size (coc c) 78 w' ∧ Blk W1.heap.size I.arr 51 w' ∧ Blk wr.heap.size y.arr 57 w') (by kernel_rfl) ⟨b1.drew, b2.drew, b3.drew⟩ (fun hHeld => ?_)
   refine tkQ 0 hHeld ?_
   try simp only [yy]
   refine tkQ 1 hHeld ?_
   try simp only [yy]
   refine tkQ 2 hHeld ?_
   try simp only [yy]
   refine tkQ 3 hHeld ?_
   try simp only [yy]
   refine tkQ 5 hHeld ?_
   try simp only [yy]
   refine tkQ 6 hHeld ?_
   try simp only [yy]
   refine tkH 7 (v := ?v15) rfl (by kernel_rfl) (fun _ _ _ h => h) (Or.inl ⟨by rfl, ?hy15⟩) hHeld ?_
   case hy15 => (intro w hSw; have hc := hSw.1.cell 2 (.int .u32 (c.own : Int)) rfl; rw [eo.out] at hc; clear hSw; go_simp; try with_reducible rfl)
   try simp only [yy]
   refine' tkH 8 (v := _) rfl (by kernel_rfl) (fun _ _ _ h => h) (yieldsIf_load_mid (by rfl) _ _ rfl W1.heap.size 0 rfl I.vals _ ?hS16 Tryz.underlying51 rfl sizeIdn) hHeld ?_
   case hS16 => exact fun w h => h.2.1.whole
   try simp only [yy]
   refine' tkH 9 (v := _) rfl (by kernel_rfl) (fun _ _ _ h => h) (yieldsIf_load_mid (by rfl) _ _ rfl wr.heap.size 0 rfl y.vals _ ?hS17 Tryz.underlying57 rfl sizeHp) hHeld ?_
   case hS17 => exact fun w h => h.2.2.whole
   try simp only [yy]
   refine tkH 10 (v := .agg (Td.mk i o I y).arr) rfl (by kernel_rfl) (fun _ _ _ h => h) (yields_build (by rfl) 59 #[(0, .tmp 39), (1, .tmp 41), (2, .tmp 42), (3, .tmp 43)] rfl (by kernel_rfl)) hHeld ?_
   try simp only [yy]
   refine wpAnyH_ready (rs := [4, 11]) (by kernel_rfl) (by simp) ?_
   refine AllReadyH.cons rfl (fun K hK => ?_) (AllReadyH.cons rfl (fun K hK => ?_) (AllReadyH.nil))
   ·rw [if_pos (by rfl)]
    refine wp_load_cell 34 _ rfl (.slice te nt tf) rfl (show _ = some (Value.slice te nt tf) from (by rw [← hnt.out]; exact hU.fb.cell 4 _ rfl)) Tryz.underlying34 rfl ?_
    refine hK.out _ _ hHeld (fun hHeld => ?_)
    clear hK K 
    try simp only [yy]
    refine rd1 11 (fun K hK => ?_)
    rw [if_pos (by rfl)]
    refine wp_td _ rfl (Td.mk i o I y) rfl ?_
    intro p9 u2 hg1 hb hgl
    replace hU := hU.below hb
    replace hHu := hHu.below hb
    replace kU := kU.trans (Kp.of_below hb)
    refine hK.out _ _ ⟨hHeld.1.below hb, hHeld.2.1.below hb, hHeld.2.2.below hb⟩ (fun hHeld => ?_)
    clear hK K hb hgl
    try simp only [yy]
    refine rd1 12 (fun K hK => ?_)
    rw [if_pos (by rfl)]
    have hx9 := (li_one hg1).src (P := Tryz.prog) Td.vals_length Td.vals_one Tryz.underlying34 1
    refine wp_append_ln Td.vals_length _ _ rfl Tryz.underlying34 hI hz0 hsz hby hzs hU.ft (Nat.zero_le _) hnt.out rfl (M := [Td.mk i o I y]) (by simp) hx9 rfl (by simp; omega) (by simp [maxLen]; omega) ?_
    intro ta' tc' u3 hG' hk' hA'
    have bP := hU.fb.kp hk' hU.n2.1
    have kU' := kU.also hk' (fun b hb => (hAe b hb).imp (fun h => by simp [wbs, h]) (fun h => by omega))
    have hsz9 := hHeld.2.1.lt
    refine hK.out _ _ ⟨hHeld.1.kp hk' (hq9 _ (by simp)), hHeld.2.1.kp hk' (hq9 _ (by simp)), hHeld.2.2.kp hk' (hq9 _ (by simp))⟩ (fun hHeld => ?_)
    clear hK K hx9 hg1
    try simp only [yy]
    refine tkQ 13 hHeld ?_
    try simp only [yy]
    refine tkQ 14 hHeld ?_
    try simp only [yy]
    refine rd1 15 (fun K hK => ?_)
    rw [if_pos (by rfl)]
    refine wp_store_one 34 _ _ rfl (off := 4) (.slice ta' (nt + 1) tc') bP rfl rfl rfl rfl (by kernel_rfl) (show 4 + 1 ≤ 5 by decide) ?_
    intro u4 hn9 hk9
    rw [uac_told] at hn9
    have hU' := hU.tell (T ++ [Td.mk i o I y]) hk' hG' hA' hk9 (by rw [List.length_append, hnt.out]; exact hn9)
    replace kU' := kU'.trans (hk9.mono (by simp [wbs]))
    refine hK.out _ _ ⟨hHeld.1.kp1 hk9 (hP9 _ (by simp)), hHeld.2.1.kp1 hk9 (hP9 _ (by simp)), hHeld.2.2.kp1 hk9 (hP9 _ (by simp))⟩ (fun hHeld => ?_)
    clear hK K hn9 bP
    try simp only [yy]
    refine wpAnyH_done (by kernel_rfl) ?_ _
    have hpv := tells_next i c.own x.1.conf hs j y hy
    rw [← eI] at hpv
    have hpv1 : Hid (T ++ [Td.mk i o I y] = S.t ++ tells i c.own x.1.conf (hs.take (j + 1))) := by show _ = _; rw [hpv.1, ← List.append_assoc, ← eT, eo.out]
    have hpv2 : Hid (inOf x.1.conf (hs.take (j + 1)) = if y.view = true then y.conf else I) := hpv.2
    clear hpv
    have hOn : ∀ b ∈ wbs P g u ta', Off (some ⟨bh, of, none⟩) hs b := fun b hb => by
     simp only [wbs, List.mem_cons] at hb
     rcases hb with rfl | rfl | rfl | hb
     ·exact hHo _ (by simp [wbs])
     ·exact hHo _ (by simp [wbs])
     ·exact hHo _ (by simp [wbs])
     ·rcases hA' b hb with e | e
      ·exact hOe b (by simp [wbs, e])
      ·exact Off.li hHu b (.inr e)
    have hAn : ∀ b ∈ blkOf ta', b ∈ blkOf ta ∨ W1.heap.size + 1 ≤ b := fun b hb => by
     rcases hA' b hb with e | e
     ·exact hAe b e
     ·exact .inr (by have := hsz9; omega)
    have hHn := (hHu.off hk' (fun b hb => hOe b (by simp [wbs, hb]))).off hk9 (by simpa using hHo P (by simp [wbs]))
    obtain ⟨d1, d2, d3⟩ := hHeld
    clear hU hk' hG' hA' hk9 hOe hAe hHu kU
    cases hvw : y.view with
    | false =>
     have c0 : World.cell? _ ⟨wr.heap.size, 0, none⟩ = some (.bool false) := (d3.cell 0 _ y.get_view).trans (by rw [hvw])
     go_wp2_with fail
     exact ⟨⟨j + 1, I, T ++ [Td.mk i o I y], ta', tc', by omega, by go_num, ⟨hpv1.out, by rw [hpv2.out, hvw, if_neg Bool.false_ne_true]⟩, hU', d1, d2, hHn, kU', hAn, hOn⟩, by simp [intOf]; omega⟩
    | true =>
     have c0 : World.cell? _ ⟨wr.heap.size, 0, none⟩ = some (.bool true) := (d3.cell 0 _ y.get_view).trans (by rw [hvw])
     go_wp2_with (first | refine load_part rfl 51 _ rfl (o := 39) d3 rfl y.conf.vals y.p_conf Tryz.underlying51 rfl sizeIdn ?_ | (refine store_part rfl 51 _ _ rfl (off := 0) (cells := y.conf.arr) d2 rfl rfl sizeIdn (Nat.le_refl _) (Idn.arr_one _) ?_; intro w8 b8 k8; rw [Idn.all] at b8))
     have n8 : W1.heap.size ∉ wbs P g u ta' := fun hm => by
      simp only [wbs, List.mem_cons] at hm
      rcases hm with e | e | e | e
      ·omega
      ·omega
      ·omega
      ·rcases hAn _ e with e | e
       ·have := (h.ft.in _ e).2; omega
       ·omega
     replace hU' := hU'.other k8 n8 hOr.1 hOr.2
     replace d1 := d1.kp1 k8 (by omega)
     replace hHn := hHn.off k8 (by simpa using Off.li h0H _ (.inr (by omega)))
     replace kU' := kU'.also k8 (fun p hp => by simp at hp; subst hp; exact .inr (Nat.le_of_lt w1))
     exact ⟨⟨j + 1, y.conf, T ++ [Td.mk i o I y], ta', tc', by omega, by go_num, ⟨hpv1.out, by rw [hpv2.out, hvw, if_pos rfl]⟩, hU', d1, b8, hHn, kU', hAn, hOn⟩, by simp [intOf]; omega⟩
   ·rw [if_pos (by rfl)]
    refine wp_td _ rfl (Td.mk i o I y) rfl ?_
    intro p9 u5 hg1 hb hgl
    replace hU := hU.below hb
    replace hHu := hHu.below hb
    replace kU := kU.trans (Kp.of_below hb)
    refine hK.out _ _ ⟨hHeld.1.below hb, hHeld.2.1.below hb, hHeld.2.2.below hb⟩ (fun hHeld => ?_)
    clear hK K hb hgl
    try simp only [yy]
    refine rd1 4 (fun K hK => ?_)
    rw [if_pos (by rfl)]
    refine wp_load_cell 34 _ rfl (.slice te nt tf) rfl (show _ = some (Value.slice te nt tf) from (by rw [← hnt.out]; exact hU.fb.cell 4 _ rfl)) Tryz.underlying34 rfl ?_
    refine hK.out _ _ hHeld (fun hHeld => ?_)
    clear hK K 
    try simp only [yy]
    refine rd1 12 (fun K hK => ?_)
    rw [if_pos (by rfl)]
    have hx9 := (li_one hg1).src (P := Tryz.prog) Td.vals_length Td.vals_one Tryz.underlying34 1
    refine wp_append_ln Td.vals_length _ _ rfl Tryz.underlying34 hI hz0 hsz hby hzs hU.ft (Nat.zero_le _) hnt.out rfl (M := [Td.mk i o I y]) (by simp) hx9 rfl (by simp; omega) (by simp [maxLen]; omega) ?_
    intro ta' tc' u7 hG' hk' hA'
    have bP := hU.fb.kp hk' hU.n2.1
    have kU' := kU.also hk' (fun b hb => (hAe b hb).imp (fun h => by simp [wbs, h]) (fun h => by omega))
    have hsz9 := hHeld.2.1.lt
    refine hK.out _ _ ⟨hHeld.1.kp hk' (hq9 _ (by simp)), hHeld.2.1.kp hk' (hq9 _ (by simp)), hHeld.2.2.kp hk' (hq9 _ (by simp))⟩ (fun hHeld => ?_)
    clear hK K hx9 hg1
    try simp only [yy]
    refine tkQ 13 hHeld ?_
    try simp only [yy]
    refine tkQ 14 hHeld ?_
    try simp only [yy]
    refine rd1 15 (fun K hK => ?_)
    rw [if_pos (by rfl)]
    refine wp_store_one 34 _ _ rfl (off := 4) (.slice ta' (nt + 1) tc') bP rfl rfl rfl rfl (by kernel_rfl) (show 4 + 1 ≤ 5 by decide) ?_
    intro u8 hn9 hk9
    rw [uac_told] at hn9
    have hU' := hU.tell (T ++ [Td.mk i o I y]) hk' hG' hA' hk9 (by rw [List.length_append, hnt.out]; exact hn9)
    replace kU' := kU'.trans (hk9.mono (by simp [wbs]))
    refine hK.out _ _ ⟨hHeld.1.kp1 hk9 (hP9 _ (by simp)), hHeld.2.1.kp1 hk9 (hP9 _ (by simp)), hHeld.2.2.kp1 hk9 (hP9 _ (by simp))⟩ (fun hHeld => ?_)
    clear hK K hn9 bP
    try simp only [yy]
    refine wpAnyH_done (by kernel_rfl) ?_ _
    have hpv := tells_next i c.own x.1.conf hs j y hy
    rw [← eI] at hpv
    have hpv1 : Hid (T ++ [Td.mk i o I y] = S.t ++ tells i c.own x.1.conf (hs.take (j + 1))) := by show _ = _; rw [hpv.1, ← List.append_assoc, ← eT, eo.out]
    have hpv2 : Hid (inOf x.1.conf (hs.take (j + 1)) = if y.view = true then y.conf else I) := hpv.2
    clear hpv
    have hOn : ∀ b ∈ wbs P g u ta', Off (some ⟨bh, of, none⟩) hs b := fun b hb => by
     simp only [wbs, List.mem_cons] at hb
     rcases hb with rfl | rfl | rfl | hb
     ·exact hHo _ (by simp [wbs])
     ·exact hHo _ (by simp [wbs])
     ·exact hHo _ (by simp [wbs])
     ·rcases hA' b hb with e | e
      ·exact hOe b (by simp [wbs, e])
      ·exact Off.li hHu b (.inr e)
    have hAn : ∀ b ∈ blkOf ta', b ∈ blkOf ta ∨ W1.heap.size + 1 ≤ b := fun b hb => by
     rcases hA' b hb with e | e
     ·exact hAe b e
     ·exact .inr (by have := hsz9; omega)
    have hHn := (hHu.off hk' (fun b hb => hOe b (by simp [wbs, hb]))).off hk9 (by simpa using hHo P (by simp [wbs]))
    obtain ⟨d1, d2, d3⟩ := hHeld
    clear hU hk' hG' hA' hk9 hOe hAe hHu kU
    cases hvw : y.view with
    | false =>
     have c0 : World.cell? _ ⟨wr.heap.size, 0, none⟩ = some (.bool false) := (d3.cell 0 _ y.get_view).trans (by rw [hvw])
     go_wp2_with fail
     exact ⟨⟨j + 1, I, T ++ [Td.mk i o I y], ta', tc', by omega, by go_num, ⟨hpv1.out, by rw [hpv2.out, hvw, if_neg Bool.false_ne_true]⟩, hU', d1, d2, hHn, kU', hAn, hOn⟩, by simp [intOf]; omega⟩
    | true =>
     have c0 : World.cell? _ ⟨wr.heap.size, 0, none⟩ = some (.bool true) := (d3.cell 0 _ y.get_view).trans (by rw [hvw])
     go_wp2_with (first | refine load_part rfl 51 _ rfl (o := 39) d3 rfl y.conf.vals y.p_conf Tryz.underlying51 rfl sizeIdn ?_ | (refine store_part rfl 51 _ _ rfl (off := 0) (cells := y.conf.arr) d2 rfl rfl sizeIdn (Nat.le_refl _) (Idn.arr_one _) ?_; intro w8 b8 k8; rw [Idn.all] at b8))
     have n8 : W1.heap.size ∉ wbs P g u ta' := fun hm => by
      simp only [wbs, List.mem_cons] at hm
      rcases hm with e | e | e | e
      ·omega
      ·omega
      ·omega
      ·rcases hAn _ e with e | e
       ·have := (h.ft.in _ e).2; omega
       ·omega
     replace hU' := hU'.other k8 n8 hOr.1 hOr.2
     replace d1 := d1.kp1 k8 (by omega)
     replace hHn := hHn.off k8 (by simpa using Off.li h0H _ (.inr (by omega)))
     replace kU' := kU'.also k8 (fun p hp => by simp at hp; subst hp; exact .inr (Nat.le_of_lt w1))
     exact ⟨⟨j + 1, y.conf, T ++ [Td.mk i o I y], ta', tc', by omega, by go_num, ⟨hpv1.out, by rw [hpv2.out, hvw, if_pos rfl]⟩, hU', d1, b8, hHn, kU', hAn, hOn⟩, by simp [intOf]; omega⟩
  ·obtain rfl : j = nh := by omega
   rw [List.take_of_length_le (by rw [enh.out]; exact Nat.le_refl _)] at eT
   subst eT
   clear eTI eI
   go_wp2_with fail
   go_end0
   exact ⟨rfl, te, tf, hU, kU, fun b hb => (hAe b hb).imp id (fun h => by omega)⟩
end Go.Proofs.YthgfpdidilolgaaGreat
namespace Go.Proofs.YthgfpdidilolgaaGreat
set_option maxRecDepth 10000
set_option linter.unusedSimpArgs false
open Go.RowKit Go.Sort
set_option linter.unusedVariables false
structure Gd (m : Nat) (S : Cs) : Prop where
 b : m ≤ 1000000
 n : S.up.length = S.cs.length
 c : ∀ (i : Nat) (x : Co × List Kt), S.cs[i]? = some x → i < 8 ∧ x.1.self = (i : Int) ∧ x.1.fit ∧ x.2.length ≤ m
 t : S.t.length ≤ m
 l : S.ls.length ≤ 4096
def Bec (P : Nat) (S : Cs) (i : Nat) (I : Idn) (s : Sg) (g cc u uc : Nat) (la : Option Addr) (lc : Nat) (W : List Nat) (w w' : World) : Prop :=
 ∃ a k ta' tc', Uc P (becS S i (s.c.kp a s.L.length k) s.L I s.t) g cc u uc la lc ta' tc' w' ∧ Kp W w w' ∧ ∀ b ∈ blkOf ta', b ∈ W ∨ w.heap.size ≤ b
set_option maxHeartbeats 8000000 in
theorem receive_no {P : Nat} {w : World} (who : Int) (t : ByteArray) (c : Int) (hc : c ≠ 0) (hd : ∀ w, Calls Tryz.prog 107 #[.string t] w fun e w' => ∃ p, e = .returned (.tuple #[.agg (pkc p), .int .i64 c]) ∧ Below w.heap.size w w') :
  Calls Tryz.prog 65 #[.pointer (some ⟨P, 0, none⟩), .int .i64 who, .string t] w fun e w' => e = .returned (.tuple #[]) ∧ Below w.heap.size w w' := by
 have hc1 : (c != 0) = true := by simp [hc]
 go_enter Tryz.func65, Tryz.ntmps65
 go_wp2_with fail
 refine (hd _).mono ?_
 rintro r w1 ⟨p, rfl, hb⟩
 have hb2 := below_box w1 (.cells (pkc p) 116)
 clear hd
 go_wp2_with (first | refine alloc_zero zeroPk rfl rfl ?_ | refine store_new rfl 116 _ _ rfl (cells := pkc p) rfl rfl sizePk rfl (pkc_one _) ?_)
 (try simp only [Exit.inBlock, Exit.then])
 refine bodyPost_ret (results_none rfl _ _ _) rfl ?_
 exact ⟨rfl, hb.trans (hb2.mono hb.size)⟩
def isUpB (S : Cs) (who : Int) : Bool := isD S.cs.length who && S.up.getD who.toNat false
set_option maxHeartbeats 8000000 in
theorem receive_down {P : Nat} {S : Cs} {g cc u uc : Nat} {la : Option Addr} {lc : Nat} {ta : Option Addr} {tc : Nat} {w : World} (h : Uc P S g cc u uc la lc ta tc w) {m : Nat} (hG : Gd m S) (who : Int) (t : ByteArray) (p : Pk) (hd : ∀ w, Calls Tryz.prog 107 #[.string t] w fun e w' => e = .returned (.tuple #[.agg (pkc p), .int .i64 0]) ∧ Below w.heap.size w w') (hu : isUpB S who = false) :
  Calls Tryz.prog 65 #[.pointer (some ⟨P, 0, none⟩), .int .i64 who, .string t] w fun e w' => e = .returned (.tuple #[]) ∧ Below w.heap.size w w' := by
 go_enter Tryz.func65, Tryz.ntmps65
 go_wp2_with fail
 refine (hd _).mono ?_
 rintro r w1 ⟨rfl, hb⟩
 have hb2 := below_box w1 (.cells (pkc p) 116)
 clear hd
 go_upto_region 1 with (go_big_may; first | refine alloc_zero zeroPk rfl rfl ?_ | refine store_new rfl 116 _ _ rfl (cells := pkc p) rfl rfl sizePk rfl (pkc_one _) ?_)
 try simp only [Act.put, List.setIfInBounds_toArray, List.set_cons_zero, List.set_cons_succ]
 generalize w1.alloc (Obj.cells (pkc p) 116) = w2 at hb2 ⊢
 replace hb := hb.trans (hb2.mono hb.size)
 clear hb2
 have q := isUp_ok (h.below hb) hG.n who
 rw [show (isD S.cs.length who && S.up.getD who.toNat false) = false from hu] at q
 clear hu h hG
 go_wp2_with fail
 refine q.mono ?_
 rintro r w3 ⟨rfl, hb3⟩
 clear q
 go_wp2_with fail
 (try simp only [Exit.inBlock, Exit.then])
 refine bodyPost_ret (results_none rfl _ _ _) rfl ?_
 exact ⟨rfl, hb.trans (hb3.mono hb.size)⟩
set_option maxHeartbeats 8000000 in
theorem receive_ok {P : Nat} {S : Cs} {g cc u uc : Nat} {la : Option Addr} {lc : Nat} {ta : Option Addr} {tc : Nat} {w : World} (h : Uc P S g cc u uc la lc ta tc w) {m : Nat} (hG : Gd m S) (i : Nat) (t : ByteArray) (p : Pk) (hd : ∀ w, Calls Tryz.prog 107 #[.string t] w fun e w' => e = .returned (.tuple #[.agg (pkc p), .int .i64 0]) ∧ Below w.heap.size w w') (hu : isUpB S (i : Int) = true)
  (x : Co × List Kt) (hx : S.cs[i]? = some x) :
  Calls Tryz.prog 65 #[.pointer (some ⟨P, 0, none⟩), .int .i64 (i : Int), .string t] w fun e w' => e = .returned (.tuple #[]) ∧ Bec P S i x.1.conf (recvS x.1 x.2 p) g cc u uc la lc (wbs P g u ta) w w' := by
 obtain ⟨hi8, hcs, hft, hlz⟩ := hG.c i x hx
 have hmb := hG.b
 have hi : i < S.cs.length := (List.getElem?_eq_some_iff.1 hx).1
 obtain ⟨hkn, hK, hKo⟩ := h.fk x (List.mem_of_getElem? hx)
 replace hK := hK.mono (Nat.zero_le _)
 have hlen := recvS_len x.1 x.2 p
 obtain ⟨s, es⟩ : ∃ s, Hid (recvS x.1 x.2 p = s) := ⟨_, rfl⟩
 have pR := fun u hu => crecv_kp x.1 x.2 p i hi8 hcs hft x.1.ka x.1.kc (by omega) u hu
 rw [kp_self x.1 x.2.length hkn] at pR
 rw [es.out] at pR hlen ⊢
 obtain ⟨n, en⟩ : ∃ n, Hid (S.cs.length = n) := ⟨_, rfl⟩
 have hin : i < n := by rw [← en.out]; exact hi
 go_enter Tryz.func65, Tryz.ntmps65
 go_wp2_with fail
 refine (hd _).mono ?_
 rintro r w1 ⟨rfl, hb⟩
 have hb2 := below_box w1 (.cells (pkc p) 116)
 have b6 := blk_new w1 (pkc p) 116
 clear hd
 go_upto_region 1 with (go_big_may; first | refine alloc_zero zeroPk rfl rfl ?_ | refine store_new rfl 116 _ _ rfl (cells := pkc p) rfl rfl sizePk rfl (pkc_one _) ?_)
 try simp only [Act.put, List.setIfInBounds_toArray, List.set_cons_zero, List.set_cons_succ]
 generalize w1.alloc (Obj.cells (pkc p) 116) = w2 at hb2 b6 ⊢
 replace hb := hb.trans (hb2.mono hb.size)
 clear hb2
 have q := isUp_ok (h.below hb) hG.n (i : Int)
 rw [show (isD S.cs.length (i : Int) && S.up.getD (i : Int).toNat false) = true from hu] at q
 clear hu
 go_wp2_with fail
 refine q.mono ?_
 rintro r V ⟨rfl, hb3⟩
 replace b6 := b6.below hb3
 replace hb := hb.trans (hb3.mono hb.size)
 have hV := h.below hb
 have hK0 := hK.below hb
 clear q hb3 hK hi8 hcs hft hlz
 go_upto_region 2 with fail
 go_cut [8, 9, 10] from 24 to 37 (fun pv bv tv wx => ∃ a2 k2 t2 j2 y, pv = .pointer (some ⟨y, 0, none⟩) ∧ tv = .slice t2 s.t.length j2 ∧ Blk y (coc (s.c.kp a2 s.L.length k2)) 78 wx ∧ Li Kt.vals V.heap.size a2 s.L wx ∧ Li Hp.vals V.heap.size t2 s.t wx ∧ Below V.heap.size V wx)
 case first =>
  refine wp_region_held_drew (S := fun w' => Below V.heap.size V w') (by kernel_rfl) (Below.refl _ _).drew (fun hHeld => ?_)
  refine tkQ 0 hHeld ?_
  try simp only [yy]
  refine tkQ 1 hHeld ?_
  try simp only [yy]
  refine tkQ 2 hHeld ?_
  try simp only [yy]
  refine tkQ 3 hHeld ?_
  try simp only [yy]
  refine tkH 4 (v := ?v5) rfl (by kernel_rfl) (fun _ _ _ h => h) (Or.inl ⟨by rfl, ?hy5⟩) hHeld ?_
  case hy5 => (intro w hSw; have hc : w.cell? ⟨P, 1, none⟩ = some (.slice (some ⟨g, 0, none⟩) n cc) := (by rw [← en.out]; exact (hV.below hSw).fb.cell 1 _ rfl); clear hSw; go_simp; try with_reducible rfl)
  try simp only [yy]
  refine tkQ 5 hHeld ?_
  try simp only [yy]
  refine tkQ 6 hHeld ?_
  try simp only [yy]
  refine' tkH 7 (v := _) rfl (by kernel_rfl) (fun _ _ _ h => h) (yieldsIf_load_mid (by rfl) _ _ rfl g (i * 189) rfl (col x.1) _ ?hS8 Tryz.underlying78 rfl sizeCo) hHeld ?_
  case hS8 => exact fun w h => (hV.below h).fc.at cov_length i x hx
  try simp only [yy]
  refine' tkH 8 (v := _) rfl (by kernel_rfl) (fun _ _ _ h => h) (yieldsIf_load_mid (by rfl) _ _ rfl w1.heap.size 0 rfl (pkl p) _ ?hS9 Tryz.underlying116 rfl sizePk) hHeld ?_
  case hS9 => exact fun w h => (b6.below h).whole
  try simp only [yy]
  refine wpAnyH_ready (rs := [9, 14]) (by kernel_rfl) (by simp) ?_
  refine AllReadyH.cons rfl (fun K hK => ?_) (AllReadyH.cons rfl (fun K hK => ?_) (AllReadyH.nil))
  ·have hcz := hHeld.size
   go_simp
   go_wp2_with (refine (pR _ (hK0.below hHeld)).mono ?_; rintro r u1 ⟨⟨a2, k2, t2, j2, rfl, l2, m2⟩, hb⟩)
   refine hK.out _ _ (hHeld.below hb) (fun hHeld => ?_)
   clear hK K hb
   refine tkQ 10 hHeld ?_
   try simp only [yy]
   refine tkQ 11 hHeld ?_
   try simp only [yy]
   refine tkQ 12 hHeld ?_
   try simp only [yy]
   refine tkQ 13 hHeld ?_
   try simp only [yy]
   refine rd1 14 (fun K hK => ?_)
   rw [if_pos (by rfl)]
   refine wp_alloc_any zeroCo rfl ?_
   intro yp u2 y0 hb yl yt
   have yg := Nat.le_trans hHeld.size yl
   have ho_l2 := Off.li l2 yp (.inr yl)
   replace l2 := l2.below hb
   have ho_m2 := Off.li m2 yp (.inr yl)
   replace m2 := m2.below hb
   refine hK.out _ _ (hHeld.below hb) (fun hHeld => ?_)
   clear hK K hb yl yt
   try simp only [yy]
   refine rd1 15 (fun K hK => ?_)
   rw [if_pos (by rfl)]
   refine wp_store_all 78 _ _ rfl (cells := (coc (s.c.kp a2 s.L.length k2))) y0 rfl rfl sizeCo rfl (coc_one _) ?_
   intro u3 hn9 hk9
   replace y0 := hn9
   replace l2 := l2.off hk9 (fun q hq => by simp at hq; subst hq; exact ho_l2)
   replace m2 := m2.off hk9 (fun q hq => by simp at hq; subst hq; exact ho_m2)
   refine hK.out _ _ (below_kp hHeld hk9 yg) (fun hHeld => ?_)
   clear hK K hk9 hn9
   try simp only [yy]
   refine tkQ 16 hHeld ?_
   try simp only [yy]
   refine tkQ 17 hHeld ?_
   try simp only [yy]
   refine wpAnyH_done (by kernel_rfl) ?_ _
   go_wp2_with fail
   go_meet
   exact ⟨a2, k2, t2, j2, yp, rfl, rfl, y0, l2.mono hcz, m2.mono hcz, hHeld⟩
  ·rw [if_pos (by rfl)]
   refine wp_alloc_any zeroCo rfl ?_
   intro yp u4 y0 hb yl yt
   have yg := Nat.le_trans hHeld.size yl
   refine hK.out _ _ (hHeld.below hb) (fun hHeld => ?_)
   clear hK K hb yl
   try simp only [yy]
   refine rd1 9 (fun K hK => ?_)
   have hcz := hHeld.size
   go_simp
   go_wp2_with (refine (pR _ (hK0.below hHeld)).mono ?_; rintro r u5 ⟨⟨a2, k2, t2, j2, rfl, l2, m2⟩, hb⟩)
   replace y0 := y0.below hb
   have ho_l2 := Off.li l2 yp (.inl yt)
   have ho_m2 := Off.li m2 yp (.inl yt)
   refine hK.out _ _ (hHeld.below hb) (fun hHeld => ?_)
   clear hK K hb
   refine tkQ 10 hHeld ?_
   try simp only [yy]
   refine tkQ 11 hHeld ?_
   try simp only [yy]
   refine tkQ 12 hHeld ?_
   try simp only [yy]
   refine tkQ 13 hHeld ?_
   try simp only [yy]
   refine rd1 15 (fun K hK => ?_)
   rw [if_pos (by rfl)]
   refine wp_store_all 78 _ _ rfl (cells := (coc (s.c.kp a2 s.L.length k2))) y0 rfl rfl sizeCo rfl (coc_one _) ?_
   intro u6 hn9 hk9
   replace y0 := hn9
   replace l2 := l2.off hk9 (fun q hq => by simp at hq; subst hq; exact ho_l2)
   replace m2 := m2.off hk9 (fun q hq => by simp at hq; subst hq; exact ho_m2)
   refine hK.out _ _ (below_kp hHeld hk9 yg) (fun hHeld => ?_)
   clear hK K hk9 hn9
   try simp only [yy]
   refine tkQ 16 hHeld ?_
   try simp only [yy]
   refine tkQ 17 hHeld ?_
   try simp only [yy]
   refine wpAnyH_done (by kernel_rfl) ?_ _
   go_wp2_with fail
   go_meet
   exact ⟨a2, k2, t2, j2, yp, rfl, rfl, y0, l2.mono hcz, m2.mono hcz, hHeld⟩
 case rest =>
  obtain ⟨a2, k2, t2, j2, y, rfl, rfl, y0, l2, m2, hb3⟩ := hcut
  rename World => w4
  have hU := hV.below hb3
  have hlt := hV.lt
  clear pR hK0 b6
  go_wp2_with (refine load_blk rfl 78 _ rfl y0 rfl Tryz.underlying78 rfl sizeCo ?_)
  refine (become_ok hU i hi x hx (s.c.kp a2 s.L.length k2) s.L s.t t2 j2 rfl (l2.mono (hlt g (by simp [wbs]))) (fun b hb => Off.li l2 b (.inl (hlt b hb))) (m2.mono (Nat.zero_le _)) (fun b hb => Off.li m2 b (.inl (hlt b hb))) (by have := hG.t; have := hG.b; omega)).mono ?_
  rintro r w5 ⟨rfl, ta', tc', h5, k5, hA⟩
  have hbb : Below w.heap.size w w4 := hb.trans (hb3.mono hb.size)
  clear hU hV hG h hlt l2 m2 y0
  go_wp2_with fail
  go_end0
  exact ⟨rfl, a2, k2, ta', tc', h5, (Kp.of_below hbb).trans k5, fun b hb => (hA b hb).imp (fun h => by simp [wbs, h]) (fun h => Nat.le_trans hbb.size h)⟩
end Go.Proofs.YthgfpdidilolgaaGreat
