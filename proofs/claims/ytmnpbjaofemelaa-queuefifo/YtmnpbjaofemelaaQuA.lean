/-
  The program's small functions of entries that wait; the places that a queue has, as a set; how many stand ahead of a place.
  The places fit.
-/
import Derived.Test.YtmnpbjaofemelaaQuN
import Derived.Test.YtmnpbjaofemelaaRdC
import Derived.Test.YtmnpbjaofemelaaLr
import Derived.Lib.QuietBelow
import Derived.Carry
namespace Go.Proofs.Ytmnpbjaofemelaa
set_option maxRecDepth 10000
open Go.RowKit Go.Sort
set_option linter.unusedVariables false
set_option linter.unusedSimpArgs false

theorem empty_ok (x : Wt) (w : World) : Calls Try.prog 28 #[.agg x.arr] w fun e w' => e = .returned (.bool (noE x.e)) ∧ Below w.heap.size w w' := by
  obtain ⟨t, ht⟩ : ∃ t, Hid (noE x.e = t) := ⟨_, rfl⟩
  rw [ht.out]
  have kE : ∀ w, (binOp .eql 45 (.agg x.e.vals.toArray) (.agg En.zero.arr)).run Try.prog w = .ok (.bool t) w := eqlEn x.e En.zero t ht.out
  have b1 := blk_new w x.arr 47
  have hB := below_box w (.cells x.arr 47)
  go_enter Try.func28, Try.ntmps28
  go_upto_region 1 with fail
  try simp only [Act.put]
  generalize w.alloc (Obj.cells x.arr 47) = W at b1 hB ⊢
  go_wp2_with (first | refine load_part rfl 45 _ rfl (o := 3) b1 rfl x.e.vals x.entry Try.underlying45 rfl sizeEn ?_ | refine build_zero builtEn rfl rfl ?_)
  go_ret
  exact ⟨rfl, hB⟩

theorem svc_of (x : Wt) (w : World) : Calls Try.prog 23 #[.agg x.arr] w fun e w' => e = .returned (.int .i64 (svOf x.e)) ∧ Below w.heap.size w w' := by
  obtain ⟨r, hr⟩ : ∃ r, svOf x.e = r := ⟨_, rfl⟩
  rw [hr]
  unfold svOf at hr
  have b1 := blk_new w x.arr 47
  have hB := below_box w (.cells x.arr 47)
  go_enter Try.func23, Try.ntmps23
  go_upto_region 1 with fail
  try simp only [Act.put]
  generalize w.alloc (Obj.cells x.arr 47) = W at b1 hB ⊢
  have c3 : W.cell? ⟨w.heap.size, 3, none⟩ = some (.int .i64 x.e.k) := b1.cell 3 _ rfl
  have c4 : W.cell? ⟨w.heap.size, 4, none⟩ = some (.int .i64 x.e.sv) := b1.cell 4 _ rfl
  by_cases h : x.e.k = 1
  · rw [if_pos h] at hr
    subst hr
    have d1 : (x.e.k != 1) = false := by rw [h]; rfl
    clear h b1
    go_wp2_with fail
    go_ret
    exact ⟨rfl, hB⟩
  · rw [if_neg h] at hr
    subst hr
    have d1 : (x.e.k != 1) = true := by simpa using h
    clear h b1
    go_wp2_with fail
    go_ret
    exact ⟨rfl, hB⟩

theorem ord_ok (s : Int) (w : World) : Calls Try.prog 25 #[.int .i64 s] w fun e w' => e = .returned (.bool (ordS s)) ∧ w' = w := by
  unfold ordS
  by_cases h : s = 2
  · have d1 : (s == 2) = true := by rw [h]; rfl
    rw [decide_eq_true h]
    clear h
    go_enter Try.func25, Try.ntmps25
    go_wp2_with fail
    go_ret
    exact ⟨rfl, rfl⟩
  · have d1 : (s == 2) = false := by simpa using h
    rw [decide_eq_false h, Bool.false_or]
    obtain ⟨t, ht⟩ : ∃ t, (s == 3) = t := ⟨_, rfl⟩
    have e : decide (s = 3) = t := by rw [← ht]; rfl
    rw [e]
    clear h e
    go_enter Try.func25, Try.ntmps25
    go_wp2_with fail
    go_ret
    exact ⟨rfl, rfl⟩

theorem entAhead : Enters 37 := fun args w => by kernel_rfl
theorem ahead1_ok (p : Pl) (X : Nat) (k : Wt) (w : World) (hX : Blk X p.arr 42 w) : Calls Try.prog 37 #[.agg k.arr, .pointer (some ⟨X, 0, none⟩)] w fun e w' => e = .returned (.bool (befB p k.p)) ∧ Below w.heap.size w w' := by
  have pk := bef_ok p k.p
  generalize befB p k.p = t at pk
  have b1 := blk_new w k.arr 47
  have hB := below_box w (.cells k.arr 47)
  have hX1 := hX.below hB
  go_enter Try.func37, Try.ntmps37
  go_upto_region 1 with fail
  try simp only [Act.put]
  generalize w.alloc (Obj.cells k.arr 47) = W at b1 hB hX1 ⊢
  go_wp2_with (first | refine load_part rfl 42 _ rfl (o := 0) b1 rfl k.p.vals k.place Try.underlying42 rfl sizePl ?_ | refine load_blk rfl 42 _ rfl hX1 rfl Try.underlying42 rfl sizePl ?_)
  refine (pk _).mono ?_
  rintro r w2 ⟨rfl, hb⟩
  replace hB := hB.trans (hb.mono hB.size)
  clear b1 hX1 hb pk
  go_wp2_with fail
  go_ret
  exact ⟨rfl, hB⟩

/- What IndexFunc hands back: the first one's place, or -1. -/
def IxWt (q : Wt → Bool) (L : List Wt) (e : Ending) : Prop := (∃ j k, e = .returned (.int .i64 ((j : Nat) : Int)) ∧ L[j]? = some k ∧ q k = true ∧ ∀ k' ∈ L.take j, q k' = false) ∨ (e = .returned (.int .i64 (-1)) ∧ ∀ k ∈ L, q k = false)

set_option maxHeartbeats 2000000 in
theorem ixw_ok (f : Nat) (v1 : Value) (q : Wt → Bool) (he : Enters f) (I : World → Prop) (hI : ∀ w w', I w → Below w.heap.size w w' → I w') (L : List Wt) (hf : ∀ k w, I w → Calls Try.prog f #[.agg k.arr, v1] w fun e w' => e = .returned (.bool (q k)) ∧ Below w.heap.size w w')
    (la : Option Addr) (lc : Nat) (lm : L.length ≤ 9223372036854775807) (w : World) (hS : Li Wt.vals 0 la L w) (hw : I w) : Calls Try.prog 36 #[.slice la L.length lc, .func (.func f) #[] #[v1]] w fun e w' => IxWt q L e ∧ Below w.heap.size w w' := by
  obtain ⟨n, hn⟩ : ∃ n, L.length = n := ⟨_, rfl⟩
  rw [hn] at lm ⊢
  have HN : Hid (L.length = n) := hn
  clear hn
  go_enter Try.func36, Try.ntmps36
  go_wp2_with fail
  go_loopw [8] (fun iv wr => ∃ j : Nat, j ≤ n ∧ iv = .int .i64 j ∧ Hid (∀ k ∈ L.take j, q k = false) ∧ Li Wt.vals 0 la L wr ∧ I wr ∧ Below w.heap.size w wr) (fun iv _ => n - (intOf iv).toNat)
  case atStart => exact ⟨0, by omega, rfl, fun d h => by simp at h, hS, hw, Below.refl _ _⟩
  case round =>
    clear hS hw
    obtain ⟨j, hj, rfl, h0, hS, hX, hB⟩ := hrel
    by_cases hjn : j < n
    · have j0 : (j : Int) < (n : Int) := by omega
      have j1 : (0 : Int) ≤ (j : Int) := by omega
      obtain ⟨k, hk⟩ : ∃ k, L[j]? = some k := ⟨_, List.getElem?_eq_getElem (by rw [HN.out]; exact hjn)⟩
      obtain ⟨b, o, rfl, _, hbl, hr⟩ := hS.at Wt.vals_length j k hk
      have pk := hf k wr hX
      obtain ⟨t, ht⟩ : ∃ t, q k = t := ⟨_, rfl⟩
      have HT : Hid (q k = t) := ht
      rw [ht] at pk
      clear ht
      go_wp2_with (refine load_range rfl 47 _ rfl k.vals hr rfl Try.underlying47 rfl sizeWt ?_)
      rw [he, Oper.upon_enter]
      refine pk.mono ?_
      rintro r w1 ⟨rfl, hb⟩
      replace hS := hS.below hb
      replace hX := hI _ _ hX hb
      replace hB := hB.trans (hb.mono hB.size)
      clear hb pk hr
      cases t with
      | true =>
        have HF : IxWt q L (.returned (.int .i64 (j : Int))) := .inl ⟨j, k, rfl, hk, HT.out, h0.out⟩
        clear HT h0 hk hS hX
        go_wp2_with fail
        go_ret
        exact ⟨HF, hB⟩
      | false =>
        have HS : Hid (∀ k ∈ L.take (j + 1), q k = false) := by
          intro e he
          rw [List.take_add_one, hk] at he
          rcases List.mem_append.1 he with he | he
          · exact h0.out e he
          · simp at he
            rw [he]
            exact HT.out
        clear HT h0 hk
        go_wp2_with fail
        exact ⟨⟨j + 1, by omega, by go_num, HS, hS, hX, hB⟩, by simp [intOf]; omega⟩
    · obtain rfl : j = n := by omega
      have HF : IxWt q L (.returned (.int .i64 (-1))) := .inr ⟨rfl, fun k hk => h0.out k (by rw [List.take_of_length_le (by rw [HN.out]; omega)]; exact hk)⟩
      clear h0 HN hS hX
      go_wp2_with fail
      go_ret
      exact ⟨HF, hB⟩

set_option maxHeartbeats 1000000 in
theorem count_ok (p : Pl) (L : List Wt) (la : Option Addr) (lc : Nat) (lm : L.length ≤ 9223372036854775807) (w : World) (hS : Li Wt.vals 0 la L w) : Calls Try.prog 29 #[.slice la L.length lc, .agg p.arr] w fun e w' => e = .returned (.int .i64 (cntQ p L : Int)) ∧ Below w.heap.size w w' := by
  have b1 := blk_new w p.arr 42
  have hB := below_box w (.cells p.arr 42)
  have hS1 := hS.below hB
  have pi := fun W h1 h2 => ixw_ok 37 (.pointer (some ⟨w.heap.size, 0, none⟩)) (fun k => befB p k.p) entAhead (fun v => Blk w.heap.size p.arr 42 v) (fun u v h hb => h.below hb) L (fun k v h => ahead1_ok p w.heap.size k v h) la lc lm W h1 h2
  obtain ⟨R, hR⟩ : ∃ R, cntQ p L = R := ⟨_, rfl⟩
  have hN : Hid (∀ j k, L[j]? = some k → befB p k.p = true → (∀ k' ∈ L.take j, befB p k'.p = false) → R = j) := fun j k h1 h2 h3 => hR.symm.trans (cnt_at p L j k h1 h2 h3)
  have hM : Hid ((∀ k ∈ L, befB p k.p = false) → R = L.length) := fun h => hR.symm.trans (cnt_no p L h)
  rw [hR]
  clear hR
  obtain ⟨n, hn⟩ : ∃ n, Hid (L.length = n) := ⟨_, rfl⟩
  rw [hn.out] at lm pi hM ⊢
  go_enter Try.func29, Try.ntmps29
  go_upto_region 1 with fail
  try simp only [Act.put]
  generalize w.alloc (Obj.cells p.arr 42) = W at b1 hB hS1 ⊢
  replace pi := pi W hS1 b1
  clear b1 hS hS1
  go_wp2_with fail
  refine pi.mono ?_
  rintro r w1 ⟨hF, hb⟩
  replace hB := hB.trans (hb.mono hB.size)
  clear hb pi
  rcases hF with ⟨j, k, rfl, h1, h2, h3⟩ | ⟨rfl, h⟩
  · obtain rfl := hN.out j k h1 h2 h3
    have d1 : ¬ (R : Int) < 0 := by omega
    clear h1 h2 h3 hN hM
    go_wp2_with fail
    go_ret
    exact ⟨rfl, hB⟩
  · obtain rfl := hM.out h
    clear h hN hM
    go_wp2_with fail
    go_ret
    exact ⟨rfl, hB⟩

/- The set of the places that a queue has, in block b. -/
def Knows {H : Type} (q : List Wt) (b : Nat) (w : World) : Prop := ∃ D : DataW H, w.ownsMap Try.prog 42 unitElem b q.length D ∧ Maps.IsMap D ∧ ∀ p : Pl, p.fit → Maps.has D (plLit p) = hasP p q
theorem Knows.kp {H : Type} {q : List Wt} {b : Nat} {w w' : World} {S : List Nat} (h : Knows (H := H) q b w) (hk : Kp S w w') (hb : b ∉ S) : Knows (H := H) q b w' := by
  obtain ⟨D, h1, h2, h3⟩ := h
  have hlt := h1.lt
  obtain ⟨es, clock, hb0, F, hs, hD⟩ := h1
  exact ⟨D, ⟨es, clock, (hk.block b hlt hb).trans hb0, F, hs, hD⟩, h2, h3⟩
theorem Knows.below {H : Type} {q : List Wt} {b : Nat} {w w' : World} (h : Knows (H := H) q b w) (hk : Below w.heap.size w w') : Knows (H := H) q b w' := h.kp (Kp.of_below (S := []) hk) (by simp)
theorem Knows.lt {H : Type} {q : List Wt} {b : Nat} {w : World} (h : Knows (H := H) q b w) : b < w.heap.size := by
  obtain ⟨D, h1, _⟩ := h
  exact h1.lt
theorem knows_none {H : Type} (w : World) : Knows (H := H) [] w.heap.size (w.alloc (.map #[] 0)) := ⟨_, World.ownsMap_made w _ _ _, Maps.isMap_empty, fun _ _ => rfl⟩
theorem knows_more {H : Type} {q : List Wt} {b n : Nat} {w : World} {D D0 : DataW H} {x : Wt} (hx : x.p.fit) (h0 : Maps.IsMap D0) (hq : ∀ p : Pl, p.fit → Maps.has D0 (plLit p) = hasP p q) {z : DataW H} (hD : D = D0.put (plLit x.p) z) (hn : n = q.length + 1) (h : w.ownsMap Try.prog 42 unitElem b n D) : Knows (H := H) (q ++ [x]) b w := by
  subst hD hn
  refine ⟨_, by rw [List.length_append]; exact h, h0.put _ _, fun p hp => ?_⟩
  have e : hasP p (q ++ [x]) = (hasP p q || Pl.same x.p p) := by unfold hasP; simp
  rw [e, ← hq p hp]
  by_cases hxp : x.p = p
  · subst hxp
    rw [Pl.same_self, Bool.or_true]
    exact Maps.has_put_same h0 (plLaw.key (plKey _ hx)) _
  · have h2 : Pl.same x.p p = false := by
      cases hb : Pl.same x.p p with
      | false => rfl
      | true => exact absurd ((Pl.same_iff _ _).1 hb) hxp
    rw [h2, Bool.or_false]
    exact Maps.has_put_other (fun e => hxp (plLit_inj hp hx e).symm) _
theorem kp_grown {b : Nat} {w w' : World} (h : w.grownBy w' (some b)) : Kp [b] w w' := ⟨h.os, h.tape, h.output, h.size, fun k hk hn => h.block k hk (fun e => hn (by injection e with e; simp [e]))⟩

set_option maxHeartbeats 2000000 in
theorem places_ok {H : Type} (L : List Wt) (hf : ∀ x ∈ L, x.fit) (la : Option Addr) (lc : Nat) (lm : L.length ≤ 1000000000000) (w : World) (hS : Li Wt.vals 0 la L w) : Calls Try.prog 27 #[.slice la L.length lc] w fun e w' => ∃ b, e = .returned (.map (some b)) ∧ w.heap.size ≤ b ∧ Knows (H := H) L b w' ∧ Below w.heap.size w w' := by
  obtain ⟨n, hn⟩ : ∃ n, Hid (L.length = n) := ⟨_, rfl⟩
  rw [hn.out] at lm ⊢
  have HF : Hid (∀ x ∈ L, x.fit) := hf
  clear hf
  have hm0 := knows_none (H := H) w
  have hB0 : Below w.heap.size w (w.alloc (.map #[] 0)) := (Below.refl _ _).alloc (Nat.le_refl _) _
  have hmm := @run_makeMap Try.prog
  go_enter Try.func27, Try.ntmps27
  go_upto_region 2 with fail
  try simp only [Act.put]
  clear hmm
  generalize w.alloc (Obj.map #[] 0) = W at hm0 hB0 ⊢
  have HS : Hid (Li Wt.vals 0 la L w) := hS
  clear hS
  go_wp2_with fail
  go_loopw [9] (fun iv wr => ∃ j : Nat, j ≤ n ∧ iv = .int .i64 j ∧ Knows (H := H) (L.take j) w.heap.size wr ∧ Below w.heap.size w wr) (fun iv _ => n - (intOf iv).toNat)
  case atStart => exact ⟨0, by omega, rfl, hm0, hB0⟩
  case round =>
    clear hm0 hB0
    obtain ⟨j, hj, rfl, hK, hB⟩ := hrel
    rename World => wr
    by_cases hjn : j < n
    · have j0 : (j : Int) < (n : Int) := by omega
      have j1 : (0 : Int) ≤ (j : Int) := by omega
      obtain ⟨x, hx⟩ : ∃ k, L[j]? = some k := ⟨_, List.getElem?_eq_getElem (by rw [hn.out]; exact hjn)⟩
      have hxf := HF.out x (List.mem_of_getElem? hx)
      have hkey := plKey x.p hxf
      have HT : Hid (L.take (j + 1) = L.take j ++ [x]) := by show _ = _; rw [List.take_add_one, hx]; rfl
      have HL : Hid ((L.take j).length = j) := by show _ = _; rw [List.length_take, hn.out]; omega
      obtain ⟨b, o, rfl, _, hbl, hr⟩ := (HS.out.below hB).at Wt.vals_length j x hx
      have b1 := blk_new wr x.arr 47
      have hb := below_box wr (.cells x.arr 47)
      go_upto_region 5 with (first | refine load_range rfl 47 _ rfl x.vals hr rfl Try.underlying47 rfl sizeWt ?_ | refine alloc_zero zeroWt rfl rfl ?_ | refine store_new rfl 47 _ _ rfl (cells := x.arr) rfl rfl sizeWt rfl x.arr_one ?_)
      try simp only [Act.put]
      replace hK := hK.below hb
      generalize wr.alloc (Obj.cells x.arr 47) = W1 at b1 hb hK ⊢
      replace hB := hB.trans (hb.mono hB.size)
      clear hb hr hbl hx
      obtain ⟨D, hown, hD1, hD2⟩ := hK
      rw [HL.out] at hown
      have HD1 : Hid _ := hD1
      have HD2 : Hid _ := hD2
      clear hD1 hD2
      go_wp2_with (first | refine load_part rfl 42 _ rfl (o := 0) b1 rfl x.p.vals x.place Try.underlying42 rfl sizePl ?_ | (refine build_as rfl 63 #[] rfl (C := #[]) ?_ ?_; kernel_rfl) | (at_mapUpdate; refine wpList_mapUpdate_own _ rfl _ _ _ 61 rfl 42 63 plLaw Try.underlying61 _ w.heap.size j _ rfl hown (by unfold maxLen; omega) _ _ _ rfl rfl hkey _ [] unitElem_mk ?_; intro w2 hown2 hg2; have hK2 := knows_more hxf HD1.out HD2.out rfl (by rw [HL.out]) hown2; have hk2 := kp_grown hg2))
      rw [← HT.out] at hK2
      have hB2 := hB.trans (hk2.below1 (Nat.le_refl _) hB.size)
      exact ⟨⟨j + 1, by omega, by go_num, hK2, hB2⟩, by simp [intOf]; omega⟩
    · obtain rfl : j = n := by omega
      have e : L.take j = L := List.take_of_length_le (by rw [hn.out]; exact Nat.le_refl _)
      rw [e] at hK
      clear e
      go_wp2_with fail
      go_ret
      exact ⟨_, rfl, Nat.le_refl _, hK, hB⟩

/- A list that was made since there were B blocks. -/
def MadeWt (L : List Wt) (B : Nat) (e : Ending) (w' : World) : Prop := ∃ a c, e = .returned (.slice a L.length c) ∧ Lg Wt.vals 9 47 B a c L w'

set_option maxHeartbeats 1000000 in
theorem wclone_ok (L : List Wt) (la : Option Addr) (lc : Nat) (hl : L.length * 80 ≤ 140737488355328) (w : World) (hS : Li Wt.vals 0 la L w) : Calls Try.prog 30 #[.slice la L.length lc] w fun e w' => MadeWt L w.heap.size e w' ∧ Below w.heap.size w w' := by
  obtain ⟨iI, zI, hI, hz0, hsz, hby, hzs⟩ := infoWt
  cases la with
  | none =>
    obtain rfl : L = [] := by
      rcases hS with h | ⟨_, _, h, _⟩
      · exact h
      · cases h
    have HC : MadeWt [] w.heap.size (.returned (.slice none 0 0)) w := ⟨none, 0, rfl, Lg.none _ _ _⟩
    have hq : ∀ w, (binOp .eql 22 (.slice none 0 lc) (.slice none 0 0)).run Try.prog w = .ok (.bool true) w := fun w => by kernel_rfl
    clear hS hI
    show Calls Try.prog 30 #[.slice none 0 lc] w _
    go_enter Try.func30, Try.ntmps30
    go_wp2_with fail
    go_ret
    exact ⟨HC, Below.refl _ _⟩
  | some ad =>
    have b1 := blk_new w #[] 47
    have hB : Below w.heap.size w (w.alloc (.cells #[] 47)) := below_box w _
    have hS1 := hS.below hB
    have hx := hS1.src (P := Try.prog) Wt.vals_length Wt.vals_one Try.underlying22 lc
    have ho : Ow Wt.vals 9 47 w.heap.size 0 [] (w.alloc (.cells #[] 47)) := Ow.empty b1
    obtain ⟨n, hn⟩ : ∃ n, Hid (L.length = n) := ⟨_, rfl⟩
    rw [hn.out] at hl hx ⊢
    have hq : ∀ w, (binOp .eql 22 (.slice (some ad) n lc) (.slice none 0 0)).run Try.prog w = .ok (.bool false) w := fun w => by kernel_rfl
    clear hS hS1 b1
    go_enter Try.func30, Try.ntmps30
    go_wp2_with (first | refine box_Wt0 rfl rfl ?_ | (refine append_ow Wt.vals_length rfl _ _ rfl Try.underlying22 hI hz0 hsz hby hzs ho rfl (M := L) (by rw [hn.out]; exact hx) rfl (by simp [hn.out]; omega) (by simp [maxLen, hn.out]; omega) ?_; intro g' cap' w5 hg5 hb5 hc5; have hB6 : Below w.heap.size w w5 := hB.trans (hb5.below (by simp) hB.size)))
    go_ret
    refine ⟨⟨some ⟨g', 0, none⟩, cap', by simp, Lg.of (by simpa using hg5) (by rcases hc5 with rfl | h <;> simp at * <;> omega)⟩, hB6⟩

theorem flush_ok (L : List Wt) (la : Option Addr) (lc : Nat) (hl : L.length * 80 ≤ 140737488355328) (w : World) (hS : Li Wt.vals 0 la L w) : Calls Try.prog 14 #[.slice la L.length lc] w fun e w' => MadeWt L w.heap.size e w' ∧ Below w.heap.size w w' := by
  have pc := wclone_ok L la lc hl w hS
  go_enter Try.func14, Try.ntmps14
  go_wp2_with fail
  refine pc.mono ?_
  rintro r w1 ⟨⟨a, c, rfl, hG⟩, hb⟩
  clear pc hS
  go_wp2_with fail
  go_ret
  exact ⟨⟨a, c, rfl, hG⟩, hb⟩

end Go.Proofs.Ytmnpbjaofemelaa
