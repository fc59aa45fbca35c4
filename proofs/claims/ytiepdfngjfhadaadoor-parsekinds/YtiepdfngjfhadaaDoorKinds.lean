/-
  What is parsed begins with its own word, and asks for nothing but what this word has: the law ParseKinds returns true for every input; its card.
  No condition beyond the form's own.
-/
import Derived.Test.YtiepdfngjfhadaaDoorRows
import Derived.Test.YtiepdfngjfhadaaDoorCards
import Derived.Test.YtiepdfngjfhadaaDoorTie
import Derived.Test.YtiepdfngjfhadaaDoorPaU
import Derived.Test.YtiepdfngjfhadaaDoorPaR
import Derived.WalkKit
import Derived.ProofKit
import Derived.OpenShut
import Derived.ShutString
import Derived.ChangeOld
import Derived.Below
import Derived.Lay
import Derived.Deep.DeepHandedRow
import Derived.Deep.DeepWitnessRowRef
import Derived.SevenTiedAt
namespace Go.Proofs.YtiepdfngjfhadaaDoor.parseKinds
open Go.Sort Go.ChangeShapes Go.WideShapes Go.ChangeAt Go.RowKit
open Go.ChangeMaps (open_string shut_string)
set_option linter.unusedVariables false
set_option linter.unusedSimpArgs false
set_option maxRecDepth 10000

theorem own : ownKnob Tryd.prog.godebug = none := by kernel_rfl

/- A string's cell, below what is made later. -/
structure Cw (g o : Nat) (x : ByteArray) (w : World) : Prop where
  c : w.cell? ⟨g, o, none⟩ = some (.string x)
  l : g < w.heap.size
theorem Cw.below {g o : Nat} {x : ByteArray} {w w' : World} (h : Cw g o x w) (hb : Below w.heap.size w w') : Cw g o x w' := ⟨(hb.cell (p := ⟨g, o, none⟩) h.l).trans h.c, Nat.lt_of_lt_of_le h.l hb.size⟩
theorem cellw {a : Option Addr} {x : ByteArray} {R : List ByteArray} {w : World} (h : Li sv1 0 a (x :: R) w) : ∃ g o, a = some ⟨g, o, none⟩ ∧ Cw g o x w := by
  rcases h with h | ⟨b, o, e, _, hl, hr⟩
  · cases h
  · refine ⟨b, o, e, ?_, hl⟩
    have := range_part sv1_len hr 0 x rfl 0 _ rfl
    simpa using this
theorem kLs_at2 {g : Nat} (d : Nat) (hd : d ≤ 6) {w : World} (h : Li sv1 0 (some ⟨g, 0, none⟩) kLs w) : w.cell? ⟨g, 0 + d, none⟩ = some (.string (kB d)) := by rw [Nat.zero_add]; exact kLs_cell d hd h

set_option maxHeartbeats 16000000 in
theorem walk (s : ByteArray) (hs : s.size ≤ 140737488351232) (w : World) (hE : Te w) : Calls Tryd.prog 7 #[.string s] w fun e w' => e = .returned (.bool true) ∧ Below w.heap.size w w' := by
  go_enter Tryd.func7, Tryd.ntmps7
  have hB := Below.refl w.heap.size w
  go_wp2_with fail
  refine (parse_ok s (by omega) w hE).mono ?_
  rintro e w1 ⟨⟨o, ho, rfl⟩, hb⟩
  replace hE := hE.next hb
  replace hB := below_next hB hb
  clear hb
  cases o with
  | none =>
    clear ho
    have b1 := blk_new w1 Ca.zero.arr 24
    have hb := below_box w1 (.cells Ca.zero.arr 24)
    replace hE := hE.next hb
    replace hB := below_next hB hb
    clear hb
    go_upto_region 2 with (go_big_may; first | refine alloc_zero zeroCa rfl rfl ?_ | refine store_new rfl 24 _ _ rfl (cells := Ca.zero.arr) rfl rfl sizeCa rfl (Ca.arr_one _) ?_)
    try simp only [Act.put, List.setIfInBounds_toArray, List.set_cons_zero, List.set_cons_succ]
    generalize w1.alloc (Obj.cells Ca.zero.arr 24) = W1 at b1 hE hB ⊢
    generalize w1.heap.size = z at b1 ⊢
    go_wp2_with fail
    refine (fixed_ok W1 hE).mono ?_
    rintro e w2 ⟨rfl, hb⟩
    replace b1 := b1.below hb
    replace hE := hE.next hb
    replace hB := below_next hB hb
    clear hb
    go_wp2_with fail
    refine (fixed_ok w2 hE).mono ?_
    rintro e w3 ⟨rfl, hb⟩
    replace hB := below_next hB hb
    clear hb
    go_wp2_with fail
    go_ret
    exact ⟨rfl, hB⟩
  | some c =>
    obtain ⟨d, h, o, g, gr, sv, t⟩ := c
    have b1 := blk_new w1 (Ca.mk d h o g gr sv t).arr 24
    have hb := below_box w1 (.cells (Ca.mk d h o g gr sv t).arr 24)
    replace hE := hE.next hb
    replace hB := below_next hB hb
    clear hb
    go_upto_region 2 with (go_big_may; first | refine alloc_zero zeroCa rfl rfl ?_ | refine store_new rfl 24 _ _ rfl (cells := (Ca.mk d h o g gr sv t).arr) rfl rfl sizeCa rfl (Ca.arr_one _) ?_)
    try simp only [Act.put, List.setIfInBounds_toArray, List.set_cons_zero, List.set_cons_succ]
    generalize w1.alloc (Obj.cells (Ca.mk d h o g gr sv t).arr 24) = W1 at b1 hE hB ⊢
    generalize w1.heap.size = z at b1 ⊢
    go_wp2_with fail
    refine (fixed_ok W1 hE).mono ?_
    rintro e w2 ⟨rfl, hb⟩
    replace b1 := b1.below hb
    replace hE := hE.next hb
    replace hB := below_next hB hb
    clear hb
    have HM := (show Hid (MayC ⟨d, h, o, g, gr, sv, t⟩) from ho.1)
    have hr := ho.1.range
    simp only at hr
    obtain ⟨n, hdn⟩ : ∃ n : Nat, Hid (d = (n : Int)) := ⟨d.toNat, by show d = _; omega⟩
    have hn6 : Hid (n ≤ 6) := by show _ ≤ _; have := hdn.out; omega
    have n2 : (0 : Int) ≤ (n : Int) := by omega
    have n3 : (n : Int) < 7 := by have := hn6.out; omega
    obtain ⟨kb, hkb⟩ : ∃ kb, Hid (kB n = kb) := ⟨_, rfl⟩
    have hdw : Hid (∀ L : List ByteArray, L.map bL = wordsL 1 (bL s) → ∃ R, L = kb :: R) := by
      intro L hL
      have h1 := ho.words
      obtain ⟨R1, h2, _⟩ := wordsC_head ho.1
      rw [h2, words_RL] at h1
      have h3 := (List.cons.inj h1).1
      obtain ⟨R2, h4⟩ := wordsL_head 0 (bL s)
      rw [h4, h3] at hL
      cases L with
      | nil => cases hL
      | cons b R =>
        refine ⟨R, ?_⟩
        have h5 := (List.cons.inj hL).1
        simp only at h5
        rw [show d.toNat = n by have := hdn.out; omega] at h5
        rw [bL_kB h5, hkb.out]
    have hkk : (kb.toList == kb.toList) = true := by simp
    have hzc : Hid (∀ v : World, Blk z (Ca.mk d h o g gr sv t).arr 24 v → v.cell? ⟨z, 0, none⟩ = some (.int .i64 (n : Int))) := fun v hv => by
      have := hv.cell 0 (.int .i64 d) rfl
      rw [hdn.out] at this
      exact this
    clear ho hr
    go_upto_region 4 with fail
    try simp only [Act.put, List.setIfInBounds_toArray, List.set_cons_zero, List.set_cons_succ]
    rename World => V
    have d0 : decide ((n : Int) < 0) = false := decide_eq_false (by omega)
    have d1 : decide ((6 : Int) < (n : Int)) = false := decide_eq_false (by have := hn6.out; omega)
    refine wp_region_held_drew (S := fun v => Below V.heap.size V v) (by kernel_rfl) ((Below.refl _ _).drew) (fun hHeld => ?_)
    refine wpAnyH_take (i := 0) (v := ?v1) rfl (by kernel_rfl) (by kernel_rfl) (by kernel_rfl) (fun _ _ _ h => h) (Or.inl ⟨by rfl, ?hy1⟩) hHeld ?rest1
    case hy1 => (intro w hSw; clear hSw; go_simp; try with_reducible rfl)
    try simp only [List.getElem_toArray]
    try simp only [List.getElem_cons_succ]
    try simp only [List.getElem_cons_zero]
    try simp only [Act.put]
    try simp only [List.setIfInBounds_toArray]
    try simp only [List.set_cons_succ]
    try simp only [List.set_cons_zero]
    refine wpAnyH_take (i := 1) (v := ?v2) rfl (by kernel_rfl) (by kernel_rfl) (by kernel_rfl) (fun _ _ _ h => h) (Or.inl ⟨by rfl, ?hy2⟩) hHeld ?rest2
    case hy2 => (intro w hSw; have hc : World.cell? _ ⟨z, 0, none⟩ = some (.int .i64 (n : Int)) := hzc.out _ (b1.below hSw); clear hSw; go_simp; try with_reducible rfl)
    try simp only [List.getElem_toArray]
    try simp only [List.getElem_cons_succ]
    try simp only [List.getElem_cons_zero]
    try simp only [Act.put]
    try simp only [List.setIfInBounds_toArray]
    try simp only [List.set_cons_succ]
    try simp only [List.set_cons_zero]
    refine wpAnyH_take (i := 2) (v := ?v3) rfl (by kernel_rfl) (by kernel_rfl) (by kernel_rfl) (fun _ _ _ h => h) (Or.inl ⟨by rfl, ?hy3⟩) hHeld ?rest3
    case hy3 => (intro w hSw; clear hSw; go_simp; try with_reducible rfl)
    try simp only [List.getElem_toArray]
    try simp only [List.getElem_cons_succ]
    try simp only [List.getElem_cons_zero]
    try simp only [Act.put]
    try simp only [List.setIfInBounds_toArray]
    try simp only [List.set_cons_succ]
    try simp only [List.set_cons_zero]
    refine wpAnyH_take (i := 3) (v := ?v4) rfl (by kernel_rfl) (by kernel_rfl) (by kernel_rfl) (fun _ _ _ h => h) (Or.inl ⟨by rfl, ?hy4⟩) hHeld ?rest4
    case hy4 => (intro w hSw; clear hSw; go_simp; try with_reducible rfl)
    try simp only [List.getElem_toArray]
    try simp only [List.getElem_cons_succ]
    try simp only [List.getElem_cons_zero]
    try simp only [Act.put]
    try simp only [List.setIfInBounds_toArray]
    try simp only [List.set_cons_succ]
    try simp only [List.set_cons_zero]
    refine wpAnyH_take (i := 4) (v := ?v5) rfl (by kernel_rfl) (by kernel_rfl) (by kernel_rfl) (fun _ _ _ h => h) (Or.inl ⟨by rfl, ?hy5⟩) hHeld ?rest5
    case hy5 => (intro w hSw; clear hSw; go_simp; try with_reducible rfl)
    try simp only [List.getElem_toArray]
    try simp only [List.getElem_cons_succ]
    try simp only [List.getElem_cons_zero]
    try simp only [Act.put]
    try simp only [List.setIfInBounds_toArray]
    try simp only [List.set_cons_succ]
    try simp only [List.set_cons_zero]
    refine wpAnyH_take (i := 5) (v := ?v6) rfl (by kernel_rfl) (by kernel_rfl) (by kernel_rfl) (fun _ _ _ h => h) (Or.inl ⟨by rfl, ?hy6⟩) hHeld ?rest6
    case hy6 => (intro w hSw; have hc : World.cell? _ ⟨z, 0, none⟩ = some (.int .i64 (n : Int)) := hzc.out _ (b1.below hSw); clear hSw; go_simp; try with_reducible rfl)
    try simp only [List.getElem_toArray]
    try simp only [List.getElem_cons_succ]
    try simp only [List.getElem_cons_zero]
    try simp only [Act.put]
    try simp only [List.setIfInBounds_toArray]
    try simp only [List.set_cons_succ]
    try simp only [List.set_cons_zero]
    refine wpAnyH_take (i := 6) (v := ?v7) rfl (by kernel_rfl) (by kernel_rfl) (by kernel_rfl) (fun _ _ _ h => h) (Or.inl ⟨by rfl, ?hy7⟩) hHeld ?rest7
    case hy7 => (intro w hSw; clear hSw; go_simp; try with_reducible rfl)
    try simp only [List.getElem_toArray]
    try simp only [List.getElem_cons_succ]
    try simp only [List.getElem_cons_zero]
    try simp only [Act.put]
    try simp only [List.setIfInBounds_toArray]
    try simp only [List.set_cons_succ]
    try simp only [List.set_cons_zero]
    refine wpAnyH_take (i := 7) (v := ?v8) rfl (by kernel_rfl) (by kernel_rfl) (by kernel_rfl) (fun _ _ _ h => h) (Or.inl ⟨by rfl, ?hy8⟩) hHeld ?rest8
    case hy8 => (intro w hSw; clear hSw; go_simp; try with_reducible rfl)
    try simp only [List.getElem_toArray]
    try simp only [List.getElem_cons_succ]
    try simp only [List.getElem_cons_zero]
    try simp only [Act.put]
    try simp only [List.setIfInBounds_toArray]
    try simp only [List.set_cons_succ]
    try simp only [List.set_cons_zero]
    refine wpAnyH_take (i := 8) (v := ?v9) rfl (by kernel_rfl) (by kernel_rfl) (by kernel_rfl) (fun _ _ _ h => h) (Or.inl ⟨by rfl, ?hy9⟩) hHeld ?rest9
    case hy9 => (intro w hSw; clear hSw; go_simp; try with_reducible rfl)
    try simp only [List.getElem_toArray]
    try simp only [List.getElem_cons_succ]
    try simp only [List.getElem_cons_zero]
    try simp only [Act.put]
    try simp only [List.setIfInBounds_toArray]
    try simp only [List.set_cons_succ]
    try simp only [List.set_cons_zero]
    refine wpAnyH_take (i := 9) (v := ?v10) rfl (by kernel_rfl) (by kernel_rfl) (by kernel_rfl) (fun _ _ _ h => h) (Or.inl ⟨by rfl, ?hy10⟩) hHeld ?rest10
    case hy10 => (intro w hSw; clear hSw; go_simp; try with_reducible rfl)
    try simp only [List.getElem_toArray]
    try simp only [List.getElem_cons_succ]
    try simp only [List.getElem_cons_zero]
    try simp only [Act.put]
    try simp only [List.setIfInBounds_toArray]
    try simp only [List.set_cons_succ]
    try simp only [List.set_cons_zero]
    refine wpAnyH_take (i := 14) (v := ?v11) rfl (by kernel_rfl) (by kernel_rfl) (by kernel_rfl) (fun _ _ _ h => h) (Or.inl ⟨by rfl, ?hy11⟩) hHeld ?rest11
    case hy11 => (intro w hSw; clear hSw; go_simp; try with_reducible rfl)
    try simp only [List.getElem_toArray]
    try simp only [List.getElem_cons_succ]
    try simp only [List.getElem_cons_zero]
    try simp only [Act.put]
    try simp only [List.setIfInBounds_toArray]
    try simp only [List.set_cons_succ]
    try simp only [List.set_cons_zero]
    refine wpAnyH_take (i := 15) (v := ?v12) rfl (by kernel_rfl) (by kernel_rfl) (by kernel_rfl) (fun _ _ _ h => h) (Or.inl ⟨by rfl, ?hy12⟩) hHeld ?rest12
    case hy12 => (intro w hSw; have hc : World.cell? _ ⟨z, 0, none⟩ = some (.int .i64 (n : Int)) := hzc.out _ (b1.below hSw); clear hSw; go_simp; try with_reducible rfl)
    try simp only [List.getElem_toArray]
    try simp only [List.getElem_cons_succ]
    try simp only [List.getElem_cons_zero]
    try simp only [Act.put]
    try simp only [List.setIfInBounds_toArray]
    try simp only [List.set_cons_succ]
    try simp only [List.set_cons_zero]
    refine wpAnyH_ready (rs := [10]) (by kernel_rfl) (by simp) ?_
    refine AllReadyH.cons rfl (fun K hK => ?_) (AllReadyH.nil)
    go_simp
    go_wp2_with (refine (rwords_ok s (by omega) 1 (by decide) _).mono ?_; rintro r u1 ⟨⟨aw, Lw, cw, rfl, hLw, hWi⟩, hb⟩)
    obtain ⟨Rw, rfl⟩ := hdw.out Lw hLw
    obtain ⟨nw, hnw⟩ : ∃ n, Hid ((kb :: Rw).length = n) := ⟨_, rfl⟩
    have hnp : 0 < nw := by rw [← hnw.out]; simp
    rw [hnw.out]
    obtain ⟨gw, ow, rfl, hcw⟩ := cellw hWi
    clear hLw hWi
    refine hK.out _ _ (below_next hHeld hb) (fun hHeld => ?_)
    clear hK K hb
    refine wpAnyH_take (i := 11) (v := ?v13) rfl (by kernel_rfl) (by kernel_rfl) (by kernel_rfl) (fun _ _ _ h => h) (Or.inl ⟨by rfl, ?hy13⟩) hHeld ?rest13
    case hy13 => (intro w hSw; clear hSw; go_simp; try with_reducible rfl)
    try simp only [List.getElem_toArray]
    try simp only [List.getElem_cons_succ]
    try simp only [List.getElem_cons_zero]
    try simp only [Act.put]
    try simp only [List.setIfInBounds_toArray]
    try simp only [List.set_cons_succ]
    try simp only [List.set_cons_zero]
    refine wpAnyH_ready (rs := [12, 13]) (by kernel_rfl) (by simp) ?_
    refine AllReadyH.cons rfl (fun K hK => ?_) (AllReadyH.cons rfl (fun K hK => ?_) (AllReadyH.nil))
    · rw [if_pos (by rfl)]
      refine wp_load_cell 9 _ rfl (.string kb) rfl hcw.c Tryd.underlying9 rfl ?_
      refine hK.out _ _ hHeld (fun hHeld => ?_)
      clear hK K 
      try simp only [List.getElem_toArray]
      try simp only [List.getElem_cons_succ]
      try simp only [List.getElem_cons_zero]
      try simp only [Act.put]
      try simp only [List.setIfInBounds_toArray]
      try simp only [List.set_cons_succ]
      try simp only [List.set_cons_zero]
      refine wpAnyH_ready (rs := [13]) (by kernel_rfl) (by simp) ?_
      refine AllReadyH.cons rfl (fun K hK => ?_) (AllReadyH.nil)
      go_simp
      go_wp2_with (refine (rkinds_ok _).mono ?_; rintro r u3 ⟨⟨gk, rfl, hKi⟩, hb⟩)
      replace hcw := hcw.below hb
      refine hK.out _ _ (below_next hHeld hb) (fun hHeld => ?_)
      clear hK K hb
      refine wpAnyH_take (i := 16) (v := ?v14) rfl (by kernel_rfl) (by kernel_rfl) (by kernel_rfl) (fun _ _ _ h => h) (Or.inl ⟨by rfl, ?hy14⟩) hHeld ?rest14
      case hy14 => (intro w hSw; clear hSw; go_simp; try with_reducible rfl)
      try simp only [List.getElem_toArray]
      try simp only [List.getElem_cons_succ]
      try simp only [List.getElem_cons_zero]
      try simp only [Act.put]
      try simp only [List.setIfInBounds_toArray]
      try simp only [List.set_cons_succ]
      try simp only [List.set_cons_zero]
      refine wpAnyH_ready (rs := [17]) (by kernel_rfl) (by simp) ?_
      refine AllReadyH.cons rfl (fun K hK => ?_) (AllReadyH.nil)
      rw [if_pos (by rfl)]
      refine wp_load_cell 9 _ rfl (.string kb) rfl (by rw [← hkb.out]; exact kLs_cell n hn6.out hKi) Tryd.underlying9 rfl ?_
      refine hK.out _ _ hHeld (fun hHeld => ?_)
      clear hK K 
      try simp only [List.getElem_toArray]
      try simp only [List.getElem_cons_succ]
      try simp only [List.getElem_cons_zero]
      try simp only [Act.put]
      try simp only [List.setIfInBounds_toArray]
      try simp only [List.set_cons_succ]
      try simp only [List.set_cons_zero]
      refine wpAnyH_take (i := 18) (v := ?v15) rfl (by kernel_rfl) (by kernel_rfl) (by kernel_rfl) (fun _ _ _ h => h) (Or.inl ⟨by rfl, ?hy15⟩) hHeld ?rest15
      case hy15 => (intro w hSw; clear hSw; go_simp; try with_reducible rfl)
      try simp only [List.getElem_toArray]
      try simp only [List.getElem_cons_succ]
      try simp only [List.getElem_cons_zero]
      try simp only [Act.put]
      try simp only [List.setIfInBounds_toArray]
      try simp only [List.set_cons_succ]
      try simp only [List.set_cons_zero]
      refine wpAnyH_take (i := 19) (v := ?v16) rfl (by kernel_rfl) (by kernel_rfl) (by kernel_rfl) (fun _ _ _ h => h) (Or.inl ⟨by rfl, ?hy16⟩) hHeld ?rest16
      case hy16 => (intro w hSw; clear hSw; go_simp; try with_reducible rfl)
      try simp only [List.getElem_toArray]
      try simp only [List.getElem_cons_succ]
      try simp only [List.getElem_cons_zero]
      try simp only [Act.put]
      try simp only [List.setIfInBounds_toArray]
      try simp only [List.set_cons_succ]
      try simp only [List.set_cons_zero]
      refine wpAnyH_done (by kernel_rfl) ?_ _
      rename World => U
      replace b1 := b1.below hHeld
      replace hB := below_next hB hHeld
      clear hHeld hKi hcw
      have hM := HM.out
      clear hkk hzc d0 d1
      rcases hM with k | k | k | k | k | k | k
      · obtain ⟨e0, e1, e2, e3, e4, e5, e6⟩ := Ca.mk.inj k.2
        subst e0 e1 e2 e3 e4 e5 e6
        obtain ⟨p0, p1, p2, p3, p4, p5, p6⟩ := cells7 b1
        clear hdn HM n2 n3 hn6 hkb hdw hE b1 hs
        replace p6 : U.cell? ⟨z, 6, none⟩ = some (.string { data := #[] }) := p6
        go_wp2_with fail
        go_ret
        exact ⟨rfl, hB⟩
      · obtain ⟨e0, e1, e2, e3, e4, e5, e6⟩ := Ca.mk.inj k.2
        subst e0 e2 e3 e4 e5 e6
        obtain ⟨p0, p1, p2, p3, p4, p5, p6⟩ := cells7 b1
        clear hdn HM n2 n3 hn6 hkb hdw hE b1 hs
        replace p6 : U.cell? ⟨z, 6, none⟩ = some (.string { data := #[] }) := p6
        go_wp2_with fail
        go_ret
        exact ⟨rfl, hB⟩
      · obtain ⟨e0, e1, e2, e3, e4, e5, e6⟩ := Ca.mk.inj k.2.2.2
        subst e0 e2 e4 e5 e6
        obtain ⟨p0, p1, p2, p3, p4, p5, p6⟩ := cells7 b1
        clear hdn HM n2 n3 hn6 hkb hdw hE b1 hs
        replace p6 : U.cell? ⟨z, 6, none⟩ = some (.string { data := #[] }) := p6
        go_wp2_with fail
        go_ret
        exact ⟨rfl, hB⟩
      · obtain ⟨e0, e1, e2, e3, e4, e5, e6⟩ := Ca.mk.inj k.2
        subst e0 e3 e4 e5 e6
        obtain ⟨p0, p1, p2, p3, p4, p5, p6⟩ := cells7 b1
        clear hdn HM n2 n3 hn6 hkb hdw hE b1 hs
        replace p6 : U.cell? ⟨z, 6, none⟩ = some (.string { data := #[] }) := p6
        go_wp2_with fail
        go_ret
        exact ⟨rfl, hB⟩
      · obtain ⟨e0, e1, e2, e3, e4, e5, e6⟩ := Ca.mk.inj k.2.2.2
        subst e0 e2 e3 e5 e6
        obtain ⟨p0, p1, p2, p3, p4, p5, p6⟩ := cells7 b1
        clear hdn HM n2 n3 hn6 hkb hdw hE b1 hs
        replace p6 : U.cell? ⟨z, 6, none⟩ = some (.string { data := #[] }) := p6
        go_wp2_with fail
        go_ret
        exact ⟨rfl, hB⟩
      · obtain ⟨e0, e1, e2, e3, e4, e5, e6⟩ := Ca.mk.inj k.2.2.2
        subst e0 e2 e3 e5 e6
        obtain ⟨p0, p1, p2, p3, p4, p5, p6⟩ := cells7 b1
        clear hdn HM n2 n3 hn6 hkb hdw hE b1 hs
        replace p6 : U.cell? ⟨z, 6, none⟩ = some (.string { data := #[] }) := p6
        go_wp2_with fail
        go_ret
        exact ⟨rfl, hB⟩
      · obtain ⟨e0, e1, e2, e3, e4, e5, e6⟩ := Ca.mk.inj k.2.2.2.2.2.2
        subst e0 e2 e3
        obtain ⟨p0, p1, p2, p3, p4, p5, p6⟩ := cells7 b1
        clear hdn HM n2 n3 hn6 hkb hdw hE b1 hs
        replace p6 : U.cell? ⟨z, 6, none⟩ = some (.string t) := p6
        go_wp2_with fail
        go_ret
        exact ⟨rfl, hB⟩
    · go_simp
      go_wp2_with (refine (rkinds_ok _).mono ?_; rintro r u5 ⟨⟨gk, rfl, hKi⟩, hb⟩)
      replace hcw := hcw.below hb
      refine hK.out _ _ (below_next hHeld hb) (fun hHeld => ?_)
      clear hK K hb
      refine wpAnyH_take (i := 16) (v := ?v17) rfl (by kernel_rfl) (by kernel_rfl) (by kernel_rfl) (fun _ _ _ h => h) (Or.inl ⟨by rfl, ?hy17⟩) hHeld ?rest17
      case hy17 => (intro w hSw; clear hSw; go_simp; try with_reducible rfl)
      try simp only [List.getElem_toArray]
      try simp only [List.getElem_cons_succ]
      try simp only [List.getElem_cons_zero]
      try simp only [Act.put]
      try simp only [List.setIfInBounds_toArray]
      try simp only [List.set_cons_succ]
      try simp only [List.set_cons_zero]
      refine wpAnyH_ready (rs := [12, 17]) (by kernel_rfl) (by simp) ?_
      refine AllReadyH.cons rfl (fun K hK => ?_) (AllReadyH.cons rfl (fun K hK => ?_) (AllReadyH.nil))
      · rw [if_pos (by rfl)]
        refine wp_load_cell 9 _ rfl (.string kb) rfl hcw.c Tryd.underlying9 rfl ?_
        refine hK.out _ _ hHeld (fun hHeld => ?_)
        clear hK K 
        try simp only [List.getElem_toArray]
        try simp only [List.getElem_cons_succ]
        try simp only [List.getElem_cons_zero]
        try simp only [Act.put]
        try simp only [List.setIfInBounds_toArray]
        try simp only [List.set_cons_succ]
        try simp only [List.set_cons_zero]
        refine wpAnyH_ready (rs := [17]) (by kernel_rfl) (by simp) ?_
        refine AllReadyH.cons rfl (fun K hK => ?_) (AllReadyH.nil)
        rw [if_pos (by rfl)]
        refine wp_load_cell 9 _ rfl (.string kb) rfl (by rw [← hkb.out]; exact kLs_cell n hn6.out hKi) Tryd.underlying9 rfl ?_
        refine hK.out _ _ hHeld (fun hHeld => ?_)
        clear hK K 
        try simp only [List.getElem_toArray]
        try simp only [List.getElem_cons_succ]
        try simp only [List.getElem_cons_zero]
        try simp only [Act.put]
        try simp only [List.setIfInBounds_toArray]
        try simp only [List.set_cons_succ]
        try simp only [List.set_cons_zero]
        refine wpAnyH_take (i := 18) (v := ?v18) rfl (by kernel_rfl) (by kernel_rfl) (by kernel_rfl) (fun _ _ _ h => h) (Or.inl ⟨by rfl, ?hy18⟩) hHeld ?rest18
        case hy18 => (intro w hSw; clear hSw; go_simp; try with_reducible rfl)
        try simp only [List.getElem_toArray]
        try simp only [List.getElem_cons_succ]
        try simp only [List.getElem_cons_zero]
        try simp only [Act.put]
        try simp only [List.setIfInBounds_toArray]
        try simp only [List.set_cons_succ]
        try simp only [List.set_cons_zero]
        refine wpAnyH_take (i := 19) (v := ?v19) rfl (by kernel_rfl) (by kernel_rfl) (by kernel_rfl) (fun _ _ _ h => h) (Or.inl ⟨by rfl, ?hy19⟩) hHeld ?rest19
        case hy19 => (intro w hSw; clear hSw; go_simp; try with_reducible rfl)
        try simp only [List.getElem_toArray]
        try simp only [List.getElem_cons_succ]
        try simp only [List.getElem_cons_zero]
        try simp only [Act.put]
        try simp only [List.setIfInBounds_toArray]
        try simp only [List.set_cons_succ]
        try simp only [List.set_cons_zero]
        refine wpAnyH_done (by kernel_rfl) ?_ _
        rename World => U
        replace b1 := b1.below hHeld
        replace hB := below_next hB hHeld
        clear hHeld hKi hcw
        have hM := HM.out
        clear hkk hzc d0 d1
        rcases hM with k | k | k | k | k | k | k
        · obtain ⟨e0, e1, e2, e3, e4, e5, e6⟩ := Ca.mk.inj k.2
          subst e0 e1 e2 e3 e4 e5 e6
          obtain ⟨p0, p1, p2, p3, p4, p5, p6⟩ := cells7 b1
          clear hdn HM n2 n3 hn6 hkb hdw hE b1 hs
          replace p6 : U.cell? ⟨z, 6, none⟩ = some (.string { data := #[] }) := p6
          go_wp2_with fail
          go_ret
          exact ⟨rfl, hB⟩
        · obtain ⟨e0, e1, e2, e3, e4, e5, e6⟩ := Ca.mk.inj k.2
          subst e0 e2 e3 e4 e5 e6
          obtain ⟨p0, p1, p2, p3, p4, p5, p6⟩ := cells7 b1
          clear hdn HM n2 n3 hn6 hkb hdw hE b1 hs
          replace p6 : U.cell? ⟨z, 6, none⟩ = some (.string { data := #[] }) := p6
          go_wp2_with fail
          go_ret
          exact ⟨rfl, hB⟩
        · obtain ⟨e0, e1, e2, e3, e4, e5, e6⟩ := Ca.mk.inj k.2.2.2
          subst e0 e2 e4 e5 e6
          obtain ⟨p0, p1, p2, p3, p4, p5, p6⟩ := cells7 b1
          clear hdn HM n2 n3 hn6 hkb hdw hE b1 hs
          replace p6 : U.cell? ⟨z, 6, none⟩ = some (.string { data := #[] }) := p6
          go_wp2_with fail
          go_ret
          exact ⟨rfl, hB⟩
        · obtain ⟨e0, e1, e2, e3, e4, e5, e6⟩ := Ca.mk.inj k.2
          subst e0 e3 e4 e5 e6
          obtain ⟨p0, p1, p2, p3, p4, p5, p6⟩ := cells7 b1
          clear hdn HM n2 n3 hn6 hkb hdw hE b1 hs
          replace p6 : U.cell? ⟨z, 6, none⟩ = some (.string { data := #[] }) := p6
          go_wp2_with fail
          go_ret
          exact ⟨rfl, hB⟩
        · obtain ⟨e0, e1, e2, e3, e4, e5, e6⟩ := Ca.mk.inj k.2.2.2
          subst e0 e2 e3 e5 e6
          obtain ⟨p0, p1, p2, p3, p4, p5, p6⟩ := cells7 b1
          clear hdn HM n2 n3 hn6 hkb hdw hE b1 hs
          replace p6 : U.cell? ⟨z, 6, none⟩ = some (.string { data := #[] }) := p6
          go_wp2_with fail
          go_ret
          exact ⟨rfl, hB⟩
        · obtain ⟨e0, e1, e2, e3, e4, e5, e6⟩ := Ca.mk.inj k.2.2.2
          subst e0 e2 e3 e5 e6
          obtain ⟨p0, p1, p2, p3, p4, p5, p6⟩ := cells7 b1
          clear hdn HM n2 n3 hn6 hkb hdw hE b1 hs
          replace p6 : U.cell? ⟨z, 6, none⟩ = some (.string { data := #[] }) := p6
          go_wp2_with fail
          go_ret
          exact ⟨rfl, hB⟩
        · obtain ⟨e0, e1, e2, e3, e4, e5, e6⟩ := Ca.mk.inj k.2.2.2.2.2.2
          subst e0 e2 e3
          obtain ⟨p0, p1, p2, p3, p4, p5, p6⟩ := cells7 b1
          clear hdn HM n2 n3 hn6 hkb hdw hE b1 hs
          replace p6 : U.cell? ⟨z, 6, none⟩ = some (.string t) := p6
          go_wp2_with fail
          go_ret
          exact ⟨rfl, hB⟩
      · rw [if_pos (by rfl)]
        refine wp_load_cell 9 _ rfl (.string kb) rfl (by rw [← hkb.out]; exact kLs_cell n hn6.out hKi) Tryd.underlying9 rfl ?_
        refine hK.out _ _ hHeld (fun hHeld => ?_)
        clear hK K 
        try simp only [List.getElem_toArray]
        try simp only [List.getElem_cons_succ]
        try simp only [List.getElem_cons_zero]
        try simp only [Act.put]
        try simp only [List.setIfInBounds_toArray]
        try simp only [List.set_cons_succ]
        try simp only [List.set_cons_zero]
        refine wpAnyH_ready (rs := [12]) (by kernel_rfl) (by simp) ?_
        refine AllReadyH.cons rfl (fun K hK => ?_) (AllReadyH.nil)
        rw [if_pos (by rfl)]
        refine wp_load_cell 9 _ rfl (.string kb) rfl hcw.c Tryd.underlying9 rfl ?_
        refine hK.out _ _ hHeld (fun hHeld => ?_)
        clear hK K 
        try simp only [List.getElem_toArray]
        try simp only [List.getElem_cons_succ]
        try simp only [List.getElem_cons_zero]
        try simp only [Act.put]
        try simp only [List.setIfInBounds_toArray]
        try simp only [List.set_cons_succ]
        try simp only [List.set_cons_zero]
        refine wpAnyH_take (i := 18) (v := ?v20) rfl (by kernel_rfl) (by kernel_rfl) (by kernel_rfl) (fun _ _ _ h => h) (Or.inl ⟨by rfl, ?hy20⟩) hHeld ?rest20
        case hy20 => (intro w hSw; clear hSw; go_simp; try with_reducible rfl)
        try simp only [List.getElem_toArray]
        try simp only [List.getElem_cons_succ]
        try simp only [List.getElem_cons_zero]
        try simp only [Act.put]
        try simp only [List.setIfInBounds_toArray]
        try simp only [List.set_cons_succ]
        try simp only [List.set_cons_zero]
        refine wpAnyH_take (i := 19) (v := ?v21) rfl (by kernel_rfl) (by kernel_rfl) (by kernel_rfl) (fun _ _ _ h => h) (Or.inl ⟨by rfl, ?hy21⟩) hHeld ?rest21
        case hy21 => (intro w hSw; clear hSw; go_simp; try with_reducible rfl)
        try simp only [List.getElem_toArray]
        try simp only [List.getElem_cons_succ]
        try simp only [List.getElem_cons_zero]
        try simp only [Act.put]
        try simp only [List.setIfInBounds_toArray]
        try simp only [List.set_cons_succ]
        try simp only [List.set_cons_zero]
        refine wpAnyH_done (by kernel_rfl) ?_ _
        rename World => U
        replace b1 := b1.below hHeld
        replace hB := below_next hB hHeld
        clear hHeld hKi hcw
        have hM := HM.out
        clear hkk hzc d0 d1
        rcases hM with k | k | k | k | k | k | k
        · obtain ⟨e0, e1, e2, e3, e4, e5, e6⟩ := Ca.mk.inj k.2
          subst e0 e1 e2 e3 e4 e5 e6
          obtain ⟨p0, p1, p2, p3, p4, p5, p6⟩ := cells7 b1
          clear hdn HM n2 n3 hn6 hkb hdw hE b1 hs
          replace p6 : U.cell? ⟨z, 6, none⟩ = some (.string { data := #[] }) := p6
          go_wp2_with fail
          go_ret
          exact ⟨rfl, hB⟩
        · obtain ⟨e0, e1, e2, e3, e4, e5, e6⟩ := Ca.mk.inj k.2
          subst e0 e2 e3 e4 e5 e6
          obtain ⟨p0, p1, p2, p3, p4, p5, p6⟩ := cells7 b1
          clear hdn HM n2 n3 hn6 hkb hdw hE b1 hs
          replace p6 : U.cell? ⟨z, 6, none⟩ = some (.string { data := #[] }) := p6
          go_wp2_with fail
          go_ret
          exact ⟨rfl, hB⟩
        · obtain ⟨e0, e1, e2, e3, e4, e5, e6⟩ := Ca.mk.inj k.2.2.2
          subst e0 e2 e4 e5 e6
          obtain ⟨p0, p1, p2, p3, p4, p5, p6⟩ := cells7 b1
          clear hdn HM n2 n3 hn6 hkb hdw hE b1 hs
          replace p6 : U.cell? ⟨z, 6, none⟩ = some (.string { data := #[] }) := p6
          go_wp2_with fail
          go_ret
          exact ⟨rfl, hB⟩
        · obtain ⟨e0, e1, e2, e3, e4, e5, e6⟩ := Ca.mk.inj k.2
          subst e0 e3 e4 e5 e6
          obtain ⟨p0, p1, p2, p3, p4, p5, p6⟩ := cells7 b1
          clear hdn HM n2 n3 hn6 hkb hdw hE b1 hs
          replace p6 : U.cell? ⟨z, 6, none⟩ = some (.string { data := #[] }) := p6
          go_wp2_with fail
          go_ret
          exact ⟨rfl, hB⟩
        · obtain ⟨e0, e1, e2, e3, e4, e5, e6⟩ := Ca.mk.inj k.2.2.2
          subst e0 e2 e3 e5 e6
          obtain ⟨p0, p1, p2, p3, p4, p5, p6⟩ := cells7 b1
          clear hdn HM n2 n3 hn6 hkb hdw hE b1 hs
          replace p6 : U.cell? ⟨z, 6, none⟩ = some (.string { data := #[] }) := p6
          go_wp2_with fail
          go_ret
          exact ⟨rfl, hB⟩
        · obtain ⟨e0, e1, e2, e3, e4, e5, e6⟩ := Ca.mk.inj k.2.2.2
          subst e0 e2 e3 e5 e6
          obtain ⟨p0, p1, p2, p3, p4, p5, p6⟩ := cells7 b1
          clear hdn HM n2 n3 hn6 hkb hdw hE b1 hs
          replace p6 : U.cell? ⟨z, 6, none⟩ = some (.string { data := #[] }) := p6
          go_wp2_with fail
          go_ret
          exact ⟨rfl, hB⟩
        · obtain ⟨e0, e1, e2, e3, e4, e5, e6⟩ := Ca.mk.inj k.2.2.2.2.2.2
          subst e0 e2 e3
          obtain ⟨p0, p1, p2, p3, p4, p5, p6⟩ := cells7 b1
          clear hdn HM n2 n3 hn6 hkb hdw hE b1 hs
          replace p6 : U.cell? ⟨z, 6, none⟩ = some (.string t) := p6
          go_wp2_with fail
          go_ret
          exact ⟨rfl, hB⟩


theorem laid_met (os : Os) : laidMetH Tryd.prog Rows.parseKindsRow.laid ((World.laidAll Tryd.prog os Rows.parseKindsRow.laid).forCall (fun _ _ => 0) ⟨#[], #[.string ByteArray.empty], []⟩).memory := by
  rw [MakeChecks.laidMetH_plain _ _ _ (by kernel_rfl)]
  exact laidMet_laidAll _ (by kernel_rfl) (by kernel_rfl)
def wdata (H : Type) : List (DataW H) := [.lit (.string [])]
theorem reads (os : Os) {H : Type} (enc : TypeId × Value → H) : ∃ places, DataW.whole enc Tryd.prog ((World.laidAll Tryd.prog os Rows.parseKindsRow.laid).forCall (fun _ _ => 0) ⟨#[], #[.string ByteArray.empty], []⟩).memory Tryd.f7.params.toList (OpenSpec.ofChange Rows.parseKindsSpec).vars false (#[.string ByteArray.empty] : Array Value).toList 8 = some (wdata H, [], places) :=
  ⟨[], by kernel_rfl⟩

set_option maxRecDepth 100000 in
theorem lifted (os : Os) (started : os.Started) (H : Type) (enc : TypeId × Value → H) (F : Stop.Interp) :
    ReturnsInHanded {} Tryd.checked os 7 .any ((OpenSpec.ofChange Rows.parseKindsSpec).preRow enc Tryd.prog Tryd.f7 Rows.parseKindsRow.domain false Rows.parseKindsRow.laid) (((OpenSpec.ofChange Rows.parseKindsSpec).at F).post enc Tryd.prog Tryd.f7 false true false false) := by
  obtain ⟨places, hx⟩ := reads os enc
  refine returnsInHanded_of_row (C := Tryd.checked) (s := OpenSpec.ofChange Rows.parseKindsSpec) own started (by kernel_rfl) Tryd.func7
    (witness_row_atRef (enc := enc) (C := Tryd.checked) false (World.laidAll Tryd.prog os Rows.parseKindsRow.laid) #[.string ByteArray.empty] (World.laidAll_os _ _ _) (by kernel_rfl) (by kernel_rfl) (by kernel_rfl)
      (OpenSpec.preRow_of_cond 8 hx (by kernel_rfl) (fun k hk => by cases hk) (by kernel_rfl) (laid_met os))) ?_
  intro W base args ds gs before hval0 hW hcnd hcond hsz0 hL0 hsh _
  have hL := hL0
  rw [MakeChecks.laidMetH_plain _ _ _ (by kernel_rfl)] at hL
  have hval : ∀ (j : Nat) t v, Tryd.f7.params[j]? = some t → args[j]? = some v → Value.okWide Tryd.prog W .any base t v := hval0
  have hsz : (DataW.weightsEach Tryd.prog (Tryd.f7.params.toList ++ Rows.parseKindsSpec.plain.varTypes Tryd.prog) (ds ++ gs)).all (· ≤ reachBytes) = true := hsz0
  have hW' := hW
  obtain ⟨p, q, hA0, hV, rfl, hfz, hnd⟩ := hW
  have hA : DataW.TrodAll enc Tryd.prog W 0 (fun _ => true) true Tryd.f7.params.toList args.toList ds p := hA0
  rw [Tryd.params7] at hA hval hsz
  obtain ⟨v0, vs0, d0, ds0, p0, q0, hargs, rfl, rfl, h0, r0⟩ := trodAll_cons hA
  obtain ⟨rfl, rfl, rfl⟩ := trodAll_nil r0
  obtain rfl : args = #[v0] := by cases args; simp_all
  obtain ⟨rfl, rfl⟩ := trodVars_none hV
  obtain ⟨a0, rfl, rfl, rfl, w0⟩ := open_string Tryd.underlying9 (hval 0 9 v0 rfl rfl) h0
  have z0 : a0.size ≤ 140737488351232 := by
    have := (fun n hn => of_decide_eq_true (List.all_eq_true.1 hsz _ (DataW.weights_mem_each (j := 0) rfl rfl n hn))) a0.data.toList.length (by simp [DataW.weights])
    rw [Array.length_toList] at this
    exact this
  have hE : Te W := te_of hL
  have hA2 := hA0
  clear hA0 hval0 hsz0
  simp only [List.append_nil] at hW'
  refine (walk a0 z0 W hE).mono fun e W' ⟨he, bel⟩ => ?_
  subst he
  exact ⟨_, rfl, _, _, _, [], _, [], hW', trodAll_mk1 (shut_bool Tryd.underlying4 _), (stays_all laidOut bel (by kernel_rfl) hA2), rfl, bel.frame _, fun h => by cases h⟩

theorem said : Rows.ParseKindsSaid :=
  OpenClaim.holds_of_cond 7 Tryd.f7 rfl rfl rfl rfl rfl rfl rfl ⟨rfl, rfl, rfl, rfl, rfl⟩ rfl rfl rfl rfl rfl (by kernel_rfl) Tryd.func7 (by kernel_rfl)
    (of_decide_eq_true (by kernel_rfl)) (by unfold Func.isWrapper; first | (rw [if_pos (by decide +kernel)]; kernel_rfl) | (rw [if_neg (by decide +kernel)]; exact ⟨rfl, rfl⟩))
    (fun os started H enc _ F => by rw [OpenClaim.pre_eq_preRow]; exact lifted os started H enc F)

theorem plain (f : FuncId) (fn : Func) (hf : Tryd.pinned.checked.prog.funcNamed "congress/congresslaw21.ParseKinds" = some f) (hfn : Tryd.pinned.checked.prog.funcs[f]? = some fn) :
    true = Tryd.pinned.checked.prog.looks [] ∧ ∀ (j : Nat) t, fn.params[j]? = some t → Tryd.pinned.checked.prog.wantsStandIn t = false := by
  obtain rfl : f = 7 := Option.some.inj ((show Tryd.prog.funcNamed "congress/congresslaw21.ParseKinds" = some 7 by kernel_rfl).symm.trans hf) |>.symm
  obtain rfl : fn = Tryd.f7 := (Option.some.inj (Tryd.func7.symm.trans hfn)).symm
  refine ⟨by kernel_rfl, fun j t ht => ?_⟩
  rw [Tryd.params7] at ht
  have hm : t ∈ [9] := by simpa using Array.mem_of_getElem? ht
  have hall : ([9].all fun u => !Tryd.prog.wantsStandIn u) = true := by kernel_rfl
  have := List.all_eq_true.1 hall t hm
  show Tryd.prog.wantsStandIn t = false
  simpa using this

theorem card : Rows.ParseKindsCardSaid :=
  Claim7.holds_tied_plain_at .later [] _ _ _ _ said (fun _ h => by cases h) (by kernel_rfl) (fun _ h => by cases h) parseKinds_row_tie rfl ⟨rfl, rfl⟩ (by kernel_rfl) rfl plain (by kernel_rfl)

end Go.Proofs.YtiepdfngjfhadaaDoor.parseKinds
namespace Go.Proofs.YtiepdfngjfhadaaDoor

theorem parseKinds_holds : Rows.ParseKindsCardSaid := parseKinds.card
#print axioms parseKinds_holds

end Go.Proofs.YtiepdfngjfhadaaDoor
