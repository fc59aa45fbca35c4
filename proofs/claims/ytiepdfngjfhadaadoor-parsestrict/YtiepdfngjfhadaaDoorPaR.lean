/-
  What the document's Print answers: a call's request, or nothing, where there is none.
  Conditions: a call as an argument.
-/
import Derived.Test.YtiepdfngjfhadaaDoorPaV
import Derived.Test.YtiepdfngjfhadaaDoorHm
namespace Go.Proofs.YtiepdfngjfhadaaDoor
set_option maxRecDepth 10000
set_option linter.unusedSimpArgs false
open Go.RowKit Go.Sort
set_option linter.unusedVariables false
set_option linter.unusedSimpArgs false

theorem kLs_cell {g : Nat} (d : Nat) (hd : d ≤ 6) {w : World} (h : Li sv1 0 (some ⟨g, 0, none⟩) kLs w) : w.cell? ⟨g, d, none⟩ = some (.string (kB d)) := by
  rcases h with h | ⟨b, o, e, _, _, hr⟩
  · cases h
  · cases e
    have := range_part sv1_len hr d (kB d) (kLs_get hd) 0 _ rfl
    simpa using this
theorem sLs_cell {g : Nat} (d : Nat) (hd : d ≤ 3) {w : World} (h : Li sv1 0 (some ⟨g, 0, none⟩) sLs w) : w.cell? ⟨g, d, none⟩ = some (.string (sB d)) := by
  rcases h with h | ⟨b, o, e, _, _, hr⟩
  · cases h
  · cases e
    have := range_part sv1_len hr d (sB d) (sLs_get hd) 0 _ rfl
    simpa using this
theorem sum32 (l : List UInt8) (h : l.length ≤ 100) (w : World) : (Op.stringOp .add { data := #[32] } (strB l)).run Tryd.prog w = .ok (.string (strB (32 :: l))) w := sum_B [32] l (by simp; omega) w
theorem outC_may {c : Ca} (h : mayC c = true) : outC c = printL c := by unfold outC; rw [if_pos h]

set_option maxHeartbeats 4000000 in
theorem rprintn (c : Ca) (hm : mayC c = false) (w : World) : Calls Tryd.prog 14 #[.agg c.arr] w fun e w' => e = .returned (.string (strB (outC c))) ∧ Below w.heap.size w w' := by
  obtain ⟨d, h, o, g, gr, sv, t⟩ := c
  have HF : Hid (outC ⟨d, h, o, g, gr, sv, t⟩ = []) := (outC_iff _).2 hm
  have b1 := blk_new w (Ca.mk d h o g gr sv t).arr 24
  have hB := below_box w (.cells (Ca.mk d h o g gr sv t).arr 24)
  have pm := rmay_ok (Ca.mk d h o g gr sv t)
  rw [hm] at pm
  go_enter Tryd.func14, Tryd.ntmps14
  go_upto_region 1 with fail
  try simp only [Act.put, List.setIfInBounds_toArray, List.set_cons_zero, List.set_cons_succ]
  generalize w.alloc (Obj.cells (Ca.mk d h o g gr sv t).arr 24) = W at b1 hB ⊢
  obtain ⟨z, hz⟩ : ∃ z, Hid (w.heap.size = z) := ⟨_, rfl⟩
  rw [hz.out] at b1 ⊢
  go_wp2_with (refine load_blk rfl 24 _ rfl b1 rfl Tryd.underlying24 rfl sizeCa ?_)
  refine (pm _).mono ?_
  rintro e V ⟨rfl, hb⟩
  replace b1 := b1.below hb
  replace hB := below_next hB hb
  clear hb pm
  go_wp2_with fail
  go_ret
  exact ⟨by rw [HF.out]; rfl, hB⟩

set_option maxHeartbeats 8000000 in
theorem rprint0 (h o : Nat) (g gr sv : Int) (t : ByteArray) (hm : mayC (Ca.mk 0 h o g gr sv t) = true) (hf : (Ca.mk 0 h o g gr sv t).fit) (w : World) : Calls Tryd.prog 14 #[.agg (Ca.mk 0 h o g gr sv t).arr] w fun e w' => e = .returned (.string (strB (outC (Ca.mk 0 h o g gr sv t)))) ∧ Below w.heap.size w w' := by
  have HF : Hid (outC (Ca.mk 0 h o g gr sv t) = kindW 0) := by
    show _ = _
    rw [outC_may hm]
    simp [printL, behC]
  obtain ⟨kb, hkb⟩ : ∃ kb, Hid (kB 0 = kb) := ⟨_, rfl⟩
  replace HF : Hid (strB (outC (Ca.mk 0 h o g gr sv t)) = kb) := by show _ = _; rw [HF.out, ← hkb.out]; rfl
  have b1 := blk_new w (Ca.mk 0 h o g gr sv t).arr 24
  have hB := below_box w (.cells (Ca.mk 0 h o g gr sv t).arr 24)
  have pm := rmay_ok (Ca.mk 0 h o g gr sv t)
  rw [hm] at pm
  go_enter Tryd.func14, Tryd.ntmps14
  go_upto_region 1 with fail
  try simp only [Act.put, List.setIfInBounds_toArray, List.set_cons_zero, List.set_cons_succ]
  generalize w.alloc (Obj.cells (Ca.mk 0 h o g gr sv t).arr 24) = W at b1 hB ⊢
  obtain ⟨z, hz⟩ : ∃ z, Hid (w.heap.size = z) := ⟨_, rfl⟩
  rw [hz.out] at b1 ⊢
  go_wp2_with (refine load_blk rfl 24 _ rfl b1 rfl Tryd.underlying24 rfl sizeCa ?_)
  refine (pm _).mono ?_
  rintro e V ⟨rfl, hb⟩
  replace b1 := b1.below hb
  replace hB := below_next hB hb
  clear hb pm
  go_upto_region 3 with fail
  try simp only [Act.put, List.setIfInBounds_toArray, List.set_cons_zero, List.set_cons_succ]
  refine wp_region_held_drew (S := fun v => Below V.heap.size V v) (by kernel_rfl) ((Below.refl _ _).drew) (fun hHeld => ?_)
  refine tkQ 1 hHeld ?_
  try simp only [yy]
  refine tkH 2 (v := ?v2) rfl (by kernel_rfl) (fun _ _ _ h => h) (Or.inl ⟨by rfl, ?hy2⟩) hHeld ?rest2
  case hy2 => (intro w hSw; have hc : World.cell? _ ⟨z, 0, none⟩ = some (.int .i64 0) := (b1.below hSw).cell 0 _ rfl; clear hSw; go_simp; try with_reducible rfl)
  try simp only [yy]
  refine rd1 0 (fun K hK => ?_)
  go_simp
  go_wp2_with (refine (rkinds_ok _).mono ?_; rintro r u1 ⟨⟨gk, rfl, hKi⟩, hb⟩)
  refine hK.out _ _ (below_next hHeld hb) (fun hHeld => ?_)
  clear hK K hb
  refine tkQ 3 hHeld ?_
  try simp only [yy]
  refine rd1 4 (fun K hK => ?_)
  rw [if_pos (by rfl)]
  refine wp_load_cell 9 _ rfl (.string kb) rfl (by rw [← hkb.out]; exact kLs_cell 0 (by decide) hKi) Tryd.underlying9 rfl ?_
  refine hK.out _ _ hHeld (fun hHeld => ?_)
  clear hK K 
  try simp only [yy]
  refine tkQ 5 hHeld ?_
  try simp only [yy]
  refine wpAnyH_done (by kernel_rfl) ?_ _
  rename World => U
  replace b1 := b1.below hHeld
  replace hB := below_next hB hHeld
  clear hHeld hKi
  have q0 : U.cell? ⟨z, 0, none⟩ = some (.int .i64 0) := b1.cell 0 _ rfl
  go_wp2_with fail
  go_ret
  exact ⟨by rw [HF.out]; rfl, hB⟩

set_option maxHeartbeats 8000000 in
theorem rprint1 (h o : Nat) (g gr sv : Int) (t : ByteArray) (hm : mayC (Ca.mk 1 h o g gr sv t) = true) (hf : (Ca.mk 1 h o g gr sv t).fit) (w : World) : Calls Tryd.prog 14 #[.agg (Ca.mk 1 h o g gr sv t).arr] w fun e w' => e = .returned (.string (strB (outC (Ca.mk 1 h o g gr sv t)))) ∧ Below w.heap.size w w' := by
  have l1 : (digs h).length ≤ 20 := digs_20 hf.2.1
  have a1 := sum32 (digs h) (by omega)
  have a2 : ∀ w, (Op.stringOp .add (kB 1) (strB (32 :: digs h))).run Tryd.prog w = .ok (.string (strB (kindW 1 ++ 32 :: digs h))) w := sum_B (kindW 1) (32 :: digs h) (by have := kindW_len 1; simp only [List.length_cons]; omega)
  have HF : Hid (outC (Ca.mk 1 h o g gr sv t) = kindW 1 ++ 32 :: digs h) := by
    show _ = _
    rw [outC_may hm]
    simp [printL, behC]
  obtain ⟨y1, e1⟩ : ∃ y, Hid (strB (32 :: digs h) = y) := ⟨_, rfl⟩
  rw [e1.out] at a1 a2
  obtain ⟨y2, e2⟩ : ∃ y, Hid (strB (kindW 1 ++ 32 :: digs h) = y) := ⟨_, rfl⟩
  rw [e2.out] at a2
  replace HF : Hid (strB (outC (Ca.mk 1 h o g gr sv t)) = y2) := by show _ = _; rw [HF.out, e2.out]
  have pd := rdigits_ok h hf.2.1
  clear l1
  generalize strB (digs h) = x1 at pd a1
  clear e1 e2
  obtain ⟨kb, hkb⟩ : ∃ kb, Hid (kB 1 = kb) := ⟨_, rfl⟩
  rw [hkb.out] at a2
  have b1 := blk_new w (Ca.mk 1 h o g gr sv t).arr 24
  have hB := below_box w (.cells (Ca.mk 1 h o g gr sv t).arr 24)
  have pm := rmay_ok (Ca.mk 1 h o g gr sv t)
  rw [hm] at pm
  go_enter Tryd.func14, Tryd.ntmps14
  go_upto_region 1 with fail
  try simp only [Act.put, List.setIfInBounds_toArray, List.set_cons_zero, List.set_cons_succ]
  generalize w.alloc (Obj.cells (Ca.mk 1 h o g gr sv t).arr 24) = W at b1 hB ⊢
  obtain ⟨z, hz⟩ : ∃ z, Hid (w.heap.size = z) := ⟨_, rfl⟩
  rw [hz.out] at b1 ⊢
  go_wp2_with (refine load_blk rfl 24 _ rfl b1 rfl Tryd.underlying24 rfl sizeCa ?_)
  refine (pm _).mono ?_
  rintro e V ⟨rfl, hb⟩
  replace b1 := b1.below hb
  replace hB := below_next hB hb
  clear hb pm
  go_upto_region 3 with fail
  try simp only [Act.put, List.setIfInBounds_toArray, List.set_cons_zero, List.set_cons_succ]
  refine wp_region_held_drew (S := fun v => Below V.heap.size V v) (by kernel_rfl) ((Below.refl _ _).drew) (fun hHeld => ?_)
  refine tkQ 1 hHeld ?_
  try simp only [yy]
  refine tkH 2 (v := ?v6) rfl (by kernel_rfl) (fun _ _ _ h => h) (Or.inl ⟨by rfl, ?hy6⟩) hHeld ?rest6
  case hy6 => (intro w hSw; have hc : World.cell? _ ⟨z, 0, none⟩ = some (.int .i64 1) := (b1.below hSw).cell 0 _ rfl; clear hSw; go_simp; try with_reducible rfl)
  try simp only [yy]
  refine rd1 0 (fun K hK => ?_)
  go_simp
  go_wp2_with (refine (rkinds_ok _).mono ?_; rintro r u1 ⟨⟨gk, rfl, hKi⟩, hb⟩)
  refine hK.out _ _ (below_next hHeld hb) (fun hHeld => ?_)
  clear hK K hb
  refine tkQ 3 hHeld ?_
  try simp only [yy]
  refine rd1 4 (fun K hK => ?_)
  rw [if_pos (by rfl)]
  refine wp_load_cell 9 _ rfl (.string kb) rfl (by rw [← hkb.out]; exact kLs_cell 1 (by decide) hKi) Tryd.underlying9 rfl ?_
  refine hK.out _ _ hHeld (fun hHeld => ?_)
  clear hK K 
  try simp only [yy]
  refine tkQ 5 hHeld ?_
  try simp only [yy]
  refine wpAnyH_done (by kernel_rfl) ?_ _
  rename World => U
  replace b1 := b1.below hHeld
  replace hB := below_next hB hHeld
  clear hHeld hKi
  have q0 : U.cell? ⟨z, 0, none⟩ = some (.int .i64 1) := b1.cell 0 _ rfl
  have q1 : U.cell? ⟨z, 1, none⟩ = some (.int .u64 (h : Int)) := b1.cell 1 _ rfl
  go_wp2_with fail
  refine (pd _).mono ?_
  rintro e u1 ⟨rfl, rfl⟩
  go_wp2_with fail
  go_ret
  exact ⟨by rw [HF.out]; rfl, hB⟩

set_option maxHeartbeats 8000000 in
theorem rprint2 (h o : Nat) (g gr sv : Int) (t : ByteArray) (hm : mayC (Ca.mk 2 h o g gr sv t) = true) (hf : (Ca.mk 2 h o g gr sv t).fit) (w : World) : Calls Tryd.prog 14 #[.agg (Ca.mk 2 h o g gr sv t).arr] w fun e w' => e = .returned (.string (strB (outC (Ca.mk 2 h o g gr sv t)))) ∧ Below w.heap.size w w' := by
  have l1 : (digs h).length ≤ 20 := digs_20 hf.2.1
  have a1 := sum32 (digs h) (by omega)
  have a2 : ∀ w, (Op.stringOp .add (kB 2) (strB (32 :: digs h))).run Tryd.prog w = .ok (.string (strB (kindW 2 ++ 32 :: digs h))) w := sum_B (kindW 2) (32 :: digs h) (by have := kindW_len 2; simp only [List.length_cons]; omega)
  have l2 : (sgns g).length ≤ 21 := sgns_len g hf.2.2.2.1.1 hf.2.2.2.1.2
  have a3 := sum32 (sgns g) (by omega)
  have a4 := sum_B (kindW 2 ++ 32 :: digs h) (32 :: sgns g) (by have := kindW_len 2; simp only [List.length_cons, List.length_append]; omega)
  have HF : Hid (outC (Ca.mk 2 h o g gr sv t) = (kindW 2 ++ 32 :: digs h) ++ 32 :: sgns g) := by
    show _ = _
    rw [outC_may hm]
    simp [printL, behC]
  obtain ⟨y1, e1⟩ : ∃ y, Hid (strB (32 :: digs h) = y) := ⟨_, rfl⟩
  rw [e1.out] at a1 a2
  obtain ⟨y2, e2⟩ : ∃ y, Hid (strB (kindW 2 ++ 32 :: digs h) = y) := ⟨_, rfl⟩
  rw [e2.out] at a2 a4
  obtain ⟨y3, e3⟩ : ∃ y, Hid (strB (32 :: sgns g) = y) := ⟨_, rfl⟩
  rw [e3.out] at a3 a4
  obtain ⟨y4, e4⟩ : ∃ y, Hid (strB ((kindW 2 ++ 32 :: digs h) ++ 32 :: sgns g) = y) := ⟨_, rfl⟩
  rw [e4.out] at a4
  replace HF : Hid (strB (outC (Ca.mk 2 h o g gr sv t)) = y4) := by show _ = _; rw [HF.out, e4.out]
  have pd := rdigits_ok h hf.2.1
  clear l1 l2
  have p2 := rsigned_ok g hf.2.2.2.1.1 hf.2.2.2.1.2
  generalize strB (digs h) = x1 at pd a1
  generalize strB (sgns g) = x2 at p2 a3
  clear e1 e2 e3 e4
  obtain ⟨kb, hkb⟩ : ∃ kb, Hid (kB 2 = kb) := ⟨_, rfl⟩
  rw [hkb.out] at a2
  have b1 := blk_new w (Ca.mk 2 h o g gr sv t).arr 24
  have hB := below_box w (.cells (Ca.mk 2 h o g gr sv t).arr 24)
  have pm := rmay_ok (Ca.mk 2 h o g gr sv t)
  rw [hm] at pm
  go_enter Tryd.func14, Tryd.ntmps14
  go_upto_region 1 with fail
  try simp only [Act.put, List.setIfInBounds_toArray, List.set_cons_zero, List.set_cons_succ]
  generalize w.alloc (Obj.cells (Ca.mk 2 h o g gr sv t).arr 24) = W at b1 hB ⊢
  obtain ⟨z, hz⟩ : ∃ z, Hid (w.heap.size = z) := ⟨_, rfl⟩
  rw [hz.out] at b1 ⊢
  go_wp2_with (refine load_blk rfl 24 _ rfl b1 rfl Tryd.underlying24 rfl sizeCa ?_)
  refine (pm _).mono ?_
  rintro e V ⟨rfl, hb⟩
  replace b1 := b1.below hb
  replace hB := below_next hB hb
  clear hb pm
  go_upto_region 3 with fail
  try simp only [Act.put, List.setIfInBounds_toArray, List.set_cons_zero, List.set_cons_succ]
  refine wp_region_held_drew (S := fun v => Below V.heap.size V v) (by kernel_rfl) ((Below.refl _ _).drew) (fun hHeld => ?_)
  refine tkQ 1 hHeld ?_
  try simp only [yy]
  refine tkH 2 (v := ?v10) rfl (by kernel_rfl) (fun _ _ _ h => h) (Or.inl ⟨by rfl, ?hy10⟩) hHeld ?rest10
  case hy10 => (intro w hSw; have hc : World.cell? _ ⟨z, 0, none⟩ = some (.int .i64 2) := (b1.below hSw).cell 0 _ rfl; clear hSw; go_simp; try with_reducible rfl)
  try simp only [yy]
  refine rd1 0 (fun K hK => ?_)
  go_simp
  go_wp2_with (refine (rkinds_ok _).mono ?_; rintro r u1 ⟨⟨gk, rfl, hKi⟩, hb⟩)
  refine hK.out _ _ (below_next hHeld hb) (fun hHeld => ?_)
  clear hK K hb
  refine tkQ 3 hHeld ?_
  try simp only [yy]
  refine rd1 4 (fun K hK => ?_)
  rw [if_pos (by rfl)]
  refine wp_load_cell 9 _ rfl (.string kb) rfl (by rw [← hkb.out]; exact kLs_cell 2 (by decide) hKi) Tryd.underlying9 rfl ?_
  refine hK.out _ _ hHeld (fun hHeld => ?_)
  clear hK K 
  try simp only [yy]
  refine tkQ 5 hHeld ?_
  try simp only [yy]
  refine wpAnyH_done (by kernel_rfl) ?_ _
  rename World => U
  replace b1 := b1.below hHeld
  replace hB := below_next hB hHeld
  clear hHeld hKi
  have q0 : U.cell? ⟨z, 0, none⟩ = some (.int .i64 2) := b1.cell 0 _ rfl
  have q1 : U.cell? ⟨z, 1, none⟩ = some (.int .u64 (h : Int)) := b1.cell 1 _ rfl
  have q3 : U.cell? ⟨z, 3, none⟩ = some (.int .i64 g) := b1.cell 3 _ rfl
  go_wp2_with fail
  refine (pd _).mono ?_
  rintro e u1 ⟨rfl, rfl⟩
  go_wp2_with fail
  refine (p2 _).mono ?_
  rintro e u2 ⟨rfl, rfl⟩
  go_wp2_with fail
  go_ret
  exact ⟨by rw [HF.out]; rfl, hB⟩

set_option maxHeartbeats 8000000 in
theorem rprint3 (h o : Nat) (g gr sv : Int) (t : ByteArray) (hm : mayC (Ca.mk 3 h o g gr sv t) = true) (hf : (Ca.mk 3 h o g gr sv t).fit) (w : World) : Calls Tryd.prog 14 #[.agg (Ca.mk 3 h o g gr sv t).arr] w fun e w' => e = .returned (.string (strB (outC (Ca.mk 3 h o g gr sv t)))) ∧ Below w.heap.size w w' := by
  have l1 : (digs h).length ≤ 20 := digs_20 hf.2.1
  have a1 := sum32 (digs h) (by omega)
  have a2 : ∀ w, (Op.stringOp .add (kB 3) (strB (32 :: digs h))).run Tryd.prog w = .ok (.string (strB (kindW 3 ++ 32 :: digs h))) w := sum_B (kindW 3) (32 :: digs h) (by have := kindW_len 3; simp only [List.length_cons]; omega)
  have l2 : (digs o).length ≤ 20 := digs_20 hf.2.2.1
  have a3 := sum32 (digs o) (by omega)
  have a4 := sum_B (kindW 3 ++ 32 :: digs h) (32 :: digs o) (by have := kindW_len 3; simp only [List.length_cons, List.length_append]; omega)
  have HF : Hid (outC (Ca.mk 3 h o g gr sv t) = (kindW 3 ++ 32 :: digs h) ++ 32 :: digs o) := by
    show _ = _
    rw [outC_may hm]
    simp [printL, behC]
  obtain ⟨y1, e1⟩ : ∃ y, Hid (strB (32 :: digs h) = y) := ⟨_, rfl⟩
  rw [e1.out] at a1 a2
  obtain ⟨y2, e2⟩ : ∃ y, Hid (strB (kindW 3 ++ 32 :: digs h) = y) := ⟨_, rfl⟩
  rw [e2.out] at a2 a4
  obtain ⟨y3, e3⟩ : ∃ y, Hid (strB (32 :: digs o) = y) := ⟨_, rfl⟩
  rw [e3.out] at a3 a4
  obtain ⟨y4, e4⟩ : ∃ y, Hid (strB ((kindW 3 ++ 32 :: digs h) ++ 32 :: digs o) = y) := ⟨_, rfl⟩
  rw [e4.out] at a4
  replace HF : Hid (strB (outC (Ca.mk 3 h o g gr sv t)) = y4) := by show _ = _; rw [HF.out, e4.out]
  have pd := rdigits_ok h hf.2.1
  clear l1 l2
  have p2 := rdigits_ok o hf.2.2.1
  generalize strB (digs h) = x1 at pd a1
  generalize strB (digs o) = x2 at p2 a3
  clear e1 e2 e3 e4
  obtain ⟨kb, hkb⟩ : ∃ kb, Hid (kB 3 = kb) := ⟨_, rfl⟩
  rw [hkb.out] at a2
  have b1 := blk_new w (Ca.mk 3 h o g gr sv t).arr 24
  have hB := below_box w (.cells (Ca.mk 3 h o g gr sv t).arr 24)
  have pm := rmay_ok (Ca.mk 3 h o g gr sv t)
  rw [hm] at pm
  go_enter Tryd.func14, Tryd.ntmps14
  go_upto_region 1 with fail
  try simp only [Act.put, List.setIfInBounds_toArray, List.set_cons_zero, List.set_cons_succ]
  generalize w.alloc (Obj.cells (Ca.mk 3 h o g gr sv t).arr 24) = W at b1 hB ⊢
  obtain ⟨z, hz⟩ : ∃ z, Hid (w.heap.size = z) := ⟨_, rfl⟩
  rw [hz.out] at b1 ⊢
  go_wp2_with (refine load_blk rfl 24 _ rfl b1 rfl Tryd.underlying24 rfl sizeCa ?_)
  refine (pm _).mono ?_
  rintro e V ⟨rfl, hb⟩
  replace b1 := b1.below hb
  replace hB := below_next hB hb
  clear hb pm
  go_upto_region 3 with fail
  try simp only [Act.put, List.setIfInBounds_toArray, List.set_cons_zero, List.set_cons_succ]
  refine wp_region_held_drew (S := fun v => Below V.heap.size V v) (by kernel_rfl) ((Below.refl _ _).drew) (fun hHeld => ?_)
  refine tkQ 1 hHeld ?_
  try simp only [yy]
  refine tkH 2 (v := ?v14) rfl (by kernel_rfl) (fun _ _ _ h => h) (Or.inl ⟨by rfl, ?hy14⟩) hHeld ?rest14
  case hy14 => (intro w hSw; have hc : World.cell? _ ⟨z, 0, none⟩ = some (.int .i64 3) := (b1.below hSw).cell 0 _ rfl; clear hSw; go_simp; try with_reducible rfl)
  try simp only [yy]
  refine rd1 0 (fun K hK => ?_)
  go_simp
  go_wp2_with (refine (rkinds_ok _).mono ?_; rintro r u1 ⟨⟨gk, rfl, hKi⟩, hb⟩)
  refine hK.out _ _ (below_next hHeld hb) (fun hHeld => ?_)
  clear hK K hb
  refine tkQ 3 hHeld ?_
  try simp only [yy]
  refine rd1 4 (fun K hK => ?_)
  rw [if_pos (by rfl)]
  refine wp_load_cell 9 _ rfl (.string kb) rfl (by rw [← hkb.out]; exact kLs_cell 3 (by decide) hKi) Tryd.underlying9 rfl ?_
  refine hK.out _ _ hHeld (fun hHeld => ?_)
  clear hK K 
  try simp only [yy]
  refine tkQ 5 hHeld ?_
  try simp only [yy]
  refine wpAnyH_done (by kernel_rfl) ?_ _
  rename World => U
  replace b1 := b1.below hHeld
  replace hB := below_next hB hHeld
  clear hHeld hKi
  have q0 : U.cell? ⟨z, 0, none⟩ = some (.int .i64 3) := b1.cell 0 _ rfl
  have q1 : U.cell? ⟨z, 1, none⟩ = some (.int .u64 (h : Int)) := b1.cell 1 _ rfl
  have q2 : U.cell? ⟨z, 2, none⟩ = some (.int .u64 (o : Int)) := b1.cell 2 _ rfl
  go_wp2_with fail
  refine (pd _).mono ?_
  rintro e u1 ⟨rfl, rfl⟩
  go_wp2_with fail
  refine (p2 _).mono ?_
  rintro e u2 ⟨rfl, rfl⟩
  go_wp2_with fail
  go_ret
  exact ⟨by rw [HF.out]; rfl, hB⟩

set_option maxHeartbeats 8000000 in
theorem rprint4 (h o : Nat) (g gr sv : Int) (t : ByteArray) (hm : mayC (Ca.mk 4 h o g gr sv t) = true) (hf : (Ca.mk 4 h o g gr sv t).fit) (w : World) : Calls Tryd.prog 14 #[.agg (Ca.mk 4 h o g gr sv t).arr] w fun e w' => e = .returned (.string (strB (outC (Ca.mk 4 h o g gr sv t)))) ∧ Below w.heap.size w w' := by
  have l1 : (digs h).length ≤ 20 := digs_20 hf.2.1
  have a1 := sum32 (digs h) (by omega)
  have a2 : ∀ w, (Op.stringOp .add (kB 4) (strB (32 :: digs h))).run Tryd.prog w = .ok (.string (strB (kindW 4 ++ 32 :: digs h))) w := sum_B (kindW 4) (32 :: digs h) (by have := kindW_len 4; simp only [List.length_cons]; omega)
  have l2 : (sgns gr).length ≤ 21 := sgns_len gr hf.2.2.2.2.1.1 hf.2.2.2.2.1.2
  have a3 := sum32 (sgns gr) (by omega)
  have a4 := sum_B (kindW 4 ++ 32 :: digs h) (32 :: sgns gr) (by have := kindW_len 4; simp only [List.length_cons, List.length_append]; omega)
  have HF : Hid (outC (Ca.mk 4 h o g gr sv t) = (kindW 4 ++ 32 :: digs h) ++ 32 :: sgns gr) := by
    show _ = _
    rw [outC_may hm]
    simp [printL, behC]
  obtain ⟨y1, e1⟩ : ∃ y, Hid (strB (32 :: digs h) = y) := ⟨_, rfl⟩
  rw [e1.out] at a1 a2
  obtain ⟨y2, e2⟩ : ∃ y, Hid (strB (kindW 4 ++ 32 :: digs h) = y) := ⟨_, rfl⟩
  rw [e2.out] at a2 a4
  obtain ⟨y3, e3⟩ : ∃ y, Hid (strB (32 :: sgns gr) = y) := ⟨_, rfl⟩
  rw [e3.out] at a3 a4
  obtain ⟨y4, e4⟩ : ∃ y, Hid (strB ((kindW 4 ++ 32 :: digs h) ++ 32 :: sgns gr) = y) := ⟨_, rfl⟩
  rw [e4.out] at a4
  replace HF : Hid (strB (outC (Ca.mk 4 h o g gr sv t)) = y4) := by show _ = _; rw [HF.out, e4.out]
  have pd := rdigits_ok h hf.2.1
  clear l1 l2
  have p2 := rsigned_ok gr hf.2.2.2.2.1.1 hf.2.2.2.2.1.2
  generalize strB (digs h) = x1 at pd a1
  generalize strB (sgns gr) = x2 at p2 a3
  clear e1 e2 e3 e4
  obtain ⟨kb, hkb⟩ : ∃ kb, Hid (kB 4 = kb) := ⟨_, rfl⟩
  rw [hkb.out] at a2
  have b1 := blk_new w (Ca.mk 4 h o g gr sv t).arr 24
  have hB := below_box w (.cells (Ca.mk 4 h o g gr sv t).arr 24)
  have pm := rmay_ok (Ca.mk 4 h o g gr sv t)
  rw [hm] at pm
  go_enter Tryd.func14, Tryd.ntmps14
  go_upto_region 1 with fail
  try simp only [Act.put, List.setIfInBounds_toArray, List.set_cons_zero, List.set_cons_succ]
  generalize w.alloc (Obj.cells (Ca.mk 4 h o g gr sv t).arr 24) = W at b1 hB ⊢
  obtain ⟨z, hz⟩ : ∃ z, Hid (w.heap.size = z) := ⟨_, rfl⟩
  rw [hz.out] at b1 ⊢
  go_wp2_with (refine load_blk rfl 24 _ rfl b1 rfl Tryd.underlying24 rfl sizeCa ?_)
  refine (pm _).mono ?_
  rintro e V ⟨rfl, hb⟩
  replace b1 := b1.below hb
  replace hB := below_next hB hb
  clear hb pm
  go_upto_region 3 with fail
  try simp only [Act.put, List.setIfInBounds_toArray, List.set_cons_zero, List.set_cons_succ]
  refine wp_region_held_drew (S := fun v => Below V.heap.size V v) (by kernel_rfl) ((Below.refl _ _).drew) (fun hHeld => ?_)
  refine tkQ 1 hHeld ?_
  try simp only [yy]
  refine tkH 2 (v := ?v18) rfl (by kernel_rfl) (fun _ _ _ h => h) (Or.inl ⟨by rfl, ?hy18⟩) hHeld ?rest18
  case hy18 => (intro w hSw; have hc : World.cell? _ ⟨z, 0, none⟩ = some (.int .i64 4) := (b1.below hSw).cell 0 _ rfl; clear hSw; go_simp; try with_reducible rfl)
  try simp only [yy]
  refine rd1 0 (fun K hK => ?_)
  go_simp
  go_wp2_with (refine (rkinds_ok _).mono ?_; rintro r u1 ⟨⟨gk, rfl, hKi⟩, hb⟩)
  refine hK.out _ _ (below_next hHeld hb) (fun hHeld => ?_)
  clear hK K hb
  refine tkQ 3 hHeld ?_
  try simp only [yy]
  refine rd1 4 (fun K hK => ?_)
  rw [if_pos (by rfl)]
  refine wp_load_cell 9 _ rfl (.string kb) rfl (by rw [← hkb.out]; exact kLs_cell 4 (by decide) hKi) Tryd.underlying9 rfl ?_
  refine hK.out _ _ hHeld (fun hHeld => ?_)
  clear hK K 
  try simp only [yy]
  refine tkQ 5 hHeld ?_
  try simp only [yy]
  refine wpAnyH_done (by kernel_rfl) ?_ _
  rename World => U
  replace b1 := b1.below hHeld
  replace hB := below_next hB hHeld
  clear hHeld hKi
  have q0 : U.cell? ⟨z, 0, none⟩ = some (.int .i64 4) := b1.cell 0 _ rfl
  have q1 : U.cell? ⟨z, 1, none⟩ = some (.int .u64 (h : Int)) := b1.cell 1 _ rfl
  have q4 : U.cell? ⟨z, 4, none⟩ = some (.int .i64 gr) := b1.cell 4 _ rfl
  go_wp2_with fail
  refine (pd _).mono ?_
  rintro e u1 ⟨rfl, rfl⟩
  go_wp2_with fail
  refine (p2 _).mono ?_
  rintro e u2 ⟨rfl, rfl⟩
  go_wp2_with fail
  go_ret
  exact ⟨by rw [HF.out]; rfl, hB⟩

set_option maxHeartbeats 8000000 in
theorem rprint5 (h o : Nat) (g gr sv : Int) (t : ByteArray) (hm : mayC (Ca.mk 5 h o g gr sv t) = true) (hf : (Ca.mk 5 h o g gr sv t).fit) (w : World) : Calls Tryd.prog 14 #[.agg (Ca.mk 5 h o g gr sv t).arr] w fun e w' => e = .returned (.string (strB (outC (Ca.mk 5 h o g gr sv t)))) ∧ Below w.heap.size w w' := by
  have l1 : (digs h).length ≤ 20 := digs_20 hf.2.1
  have a1 := sum32 (digs h) (by omega)
  have a2 : ∀ w, (Op.stringOp .add (kB 5) (strB (32 :: digs h))).run Tryd.prog w = .ok (.string (strB (kindW 5 ++ 32 :: digs h))) w := sum_B (kindW 5) (32 :: digs h) (by have := kindW_len 5; simp only [List.length_cons]; omega)
  have l2 : (sgns gr).length ≤ 21 := sgns_len gr hf.2.2.2.2.1.1 hf.2.2.2.2.1.2
  have a3 := sum32 (sgns gr) (by omega)
  have a4 := sum_B (kindW 5 ++ 32 :: digs h) (32 :: sgns gr) (by have := kindW_len 5; simp only [List.length_cons, List.length_append]; omega)
  have HF : Hid (outC (Ca.mk 5 h o g gr sv t) = (kindW 5 ++ 32 :: digs h) ++ 32 :: sgns gr) := by
    show _ = _
    rw [outC_may hm]
    simp [printL, behC]
  obtain ⟨y1, e1⟩ : ∃ y, Hid (strB (32 :: digs h) = y) := ⟨_, rfl⟩
  rw [e1.out] at a1 a2
  obtain ⟨y2, e2⟩ : ∃ y, Hid (strB (kindW 5 ++ 32 :: digs h) = y) := ⟨_, rfl⟩
  rw [e2.out] at a2 a4
  obtain ⟨y3, e3⟩ : ∃ y, Hid (strB (32 :: sgns gr) = y) := ⟨_, rfl⟩
  rw [e3.out] at a3 a4
  obtain ⟨y4, e4⟩ : ∃ y, Hid (strB ((kindW 5 ++ 32 :: digs h) ++ 32 :: sgns gr) = y) := ⟨_, rfl⟩
  rw [e4.out] at a4
  replace HF : Hid (strB (outC (Ca.mk 5 h o g gr sv t)) = y4) := by show _ = _; rw [HF.out, e4.out]
  have pd := rdigits_ok h hf.2.1
  clear l1 l2
  have p2 := rsigned_ok gr hf.2.2.2.2.1.1 hf.2.2.2.2.1.2
  generalize strB (digs h) = x1 at pd a1
  generalize strB (sgns gr) = x2 at p2 a3
  clear e1 e2 e3 e4
  obtain ⟨kb, hkb⟩ : ∃ kb, Hid (kB 5 = kb) := ⟨_, rfl⟩
  rw [hkb.out] at a2
  have b1 := blk_new w (Ca.mk 5 h o g gr sv t).arr 24
  have hB := below_box w (.cells (Ca.mk 5 h o g gr sv t).arr 24)
  have pm := rmay_ok (Ca.mk 5 h o g gr sv t)
  rw [hm] at pm
  go_enter Tryd.func14, Tryd.ntmps14
  go_upto_region 1 with fail
  try simp only [Act.put, List.setIfInBounds_toArray, List.set_cons_zero, List.set_cons_succ]
  generalize w.alloc (Obj.cells (Ca.mk 5 h o g gr sv t).arr 24) = W at b1 hB ⊢
  obtain ⟨z, hz⟩ : ∃ z, Hid (w.heap.size = z) := ⟨_, rfl⟩
  rw [hz.out] at b1 ⊢
  go_wp2_with (refine load_blk rfl 24 _ rfl b1 rfl Tryd.underlying24 rfl sizeCa ?_)
  refine (pm _).mono ?_
  rintro e V ⟨rfl, hb⟩
  replace b1 := b1.below hb
  replace hB := below_next hB hb
  clear hb pm
  go_upto_region 3 with fail
  try simp only [Act.put, List.setIfInBounds_toArray, List.set_cons_zero, List.set_cons_succ]
  refine wp_region_held_drew (S := fun v => Below V.heap.size V v) (by kernel_rfl) ((Below.refl _ _).drew) (fun hHeld => ?_)
  refine tkQ 1 hHeld ?_
  try simp only [yy]
  refine tkH 2 (v := ?v22) rfl (by kernel_rfl) (fun _ _ _ h => h) (Or.inl ⟨by rfl, ?hy22⟩) hHeld ?rest22
  case hy22 => (intro w hSw; have hc : World.cell? _ ⟨z, 0, none⟩ = some (.int .i64 5) := (b1.below hSw).cell 0 _ rfl; clear hSw; go_simp; try with_reducible rfl)
  try simp only [yy]
  refine rd1 0 (fun K hK => ?_)
  go_simp
  go_wp2_with (refine (rkinds_ok _).mono ?_; rintro r u1 ⟨⟨gk, rfl, hKi⟩, hb⟩)
  refine hK.out _ _ (below_next hHeld hb) (fun hHeld => ?_)
  clear hK K hb
  refine tkQ 3 hHeld ?_
  try simp only [yy]
  refine rd1 4 (fun K hK => ?_)
  rw [if_pos (by rfl)]
  refine wp_load_cell 9 _ rfl (.string kb) rfl (by rw [← hkb.out]; exact kLs_cell 5 (by decide) hKi) Tryd.underlying9 rfl ?_
  refine hK.out _ _ hHeld (fun hHeld => ?_)
  clear hK K 
  try simp only [yy]
  refine tkQ 5 hHeld ?_
  try simp only [yy]
  refine wpAnyH_done (by kernel_rfl) ?_ _
  rename World => U
  replace b1 := b1.below hHeld
  replace hB := below_next hB hHeld
  clear hHeld hKi
  have q0 : U.cell? ⟨z, 0, none⟩ = some (.int .i64 5) := b1.cell 0 _ rfl
  have q1 : U.cell? ⟨z, 1, none⟩ = some (.int .u64 (h : Int)) := b1.cell 1 _ rfl
  have q4 : U.cell? ⟨z, 4, none⟩ = some (.int .i64 gr) := b1.cell 4 _ rfl
  go_wp2_with fail
  refine (pd _).mono ?_
  rintro e u1 ⟨rfl, rfl⟩
  go_wp2_with fail
  refine (p2 _).mono ?_
  rintro e u2 ⟨rfl, rfl⟩
  go_wp2_with fail
  go_ret
  exact ⟨by rw [HF.out]; rfl, hB⟩

set_option maxHeartbeats 8000000 in
theorem rprint6 (h o : Nat) (g gr : Int) (t : ByteArray) (k : Nat) (hm : mayC (Ca.mk 6 h o g gr (k : Int) t) = true) (hk3 : k ≤ 3) (hf : (Ca.mk 6 h o g gr (k : Int) t).fit) (w : World) : Calls Tryd.prog 14 #[.agg (Ca.mk 6 h o g gr (k : Int) t).arr] w fun e w' => e = .returned (.string (strB (outC (Ca.mk 6 h o g gr (k : Int) t)))) ∧ Below w.heap.size w w' := by
  have l1 : (digs h).length ≤ 20 := digs_20 hf.2.1
  have a1 := sum32 (digs h) (by omega)
  have a2 : ∀ w, (Op.stringOp .add (kB 6) (strB (32 :: digs h))).run Tryd.prog w = .ok (.string (strB (kindW 6 ++ 32 :: digs h))) w := sum_B (kindW 6) (32 :: digs h) (by have := kindW_len 6; simp only [List.length_cons]; omega)
  have l2 : (sgns gr).length ≤ 21 := sgns_len gr hf.2.2.2.2.1.1 hf.2.2.2.2.1.2
  have a3 := sum32 (sgns gr) (by omega)
  have a4 := sum_B (kindW 6 ++ 32 :: digs h) (32 :: sgns gr) (by have := kindW_len 6; simp only [List.length_cons, List.length_append]; omega)
  have l3 := servW_len k
  have l4 := bL_len t
  have l5 := hf.2.2.2.2.2.2
  have c1 : ∀ w, (Op.stringOp .add { data := #[32] } (sB k)).run Tryd.prog w = .ok (.string (strB (32 :: servW k))) w := sum32 (servW k) (by omega)
  have c2 : ∀ w, (Op.stringOp .add (strB (32 :: servW k)) { data := #[32, 61] }).run Tryd.prog w = .ok (.string (strB (32 :: servW k ++ [32, 61]))) w := sum_B (32 :: servW k) [32, 61] (by simp only [List.length_cons, List.length_nil]; omega)
  have c3 : ∀ w, (Op.stringOp .add (strB (32 :: servW k ++ [32, 61])) t).run Tryd.prog w = .ok (.string (strB (32 :: servW k ++ [32, 61] ++ bL t))) w := fun w => by
    have := sum_B (32 :: servW k ++ [32, 61]) (bL t) (by simp only [List.length_cons, List.length_append, List.length_nil]; simp only [Ca.t] at l5; omega) w
    rw [strB_bL] at this
    exact this
  have c4 := sum_B ((kindW 6 ++ 32 :: digs h) ++ 32 :: sgns gr) (32 :: servW k ++ [32, 61] ++ bL t) (by have := kindW_len 6; simp only [List.length_cons, List.length_append, List.length_nil]; simp only [Ca.t] at l5; omega)
  have HF : Hid (outC (Ca.mk 6 h o g gr (k : Int) t) = ((kindW 6 ++ 32 :: digs h) ++ 32 :: sgns gr) ++ (32 :: servW k ++ [32, 61] ++ bL t)) := by
    show _ = _
    rw [outC_may hm]
    simp [printL, behC]
  obtain ⟨y1, e1⟩ : ∃ y, Hid (strB (32 :: digs h) = y) := ⟨_, rfl⟩
  rw [e1.out] at a1 a2
  obtain ⟨y2, e2⟩ : ∃ y, Hid (strB (kindW 6 ++ 32 :: digs h) = y) := ⟨_, rfl⟩
  rw [e2.out] at a2 a4
  obtain ⟨y3, e3⟩ : ∃ y, Hid (strB (32 :: sgns gr) = y) := ⟨_, rfl⟩
  rw [e3.out] at a3 a4
  obtain ⟨y4, e4⟩ : ∃ y, Hid (strB ((kindW 6 ++ 32 :: digs h) ++ 32 :: sgns gr) = y) := ⟨_, rfl⟩
  rw [e4.out] at a4 c4
  obtain ⟨y5, e5⟩ : ∃ y, Hid (strB (32 :: servW k) = y) := ⟨_, rfl⟩
  rw [e5.out] at c1 c2
  obtain ⟨y6, e6⟩ : ∃ y, Hid (strB (32 :: servW k ++ [32, 61]) = y) := ⟨strB (32 :: servW k ++ [32, 61]), rfl⟩
  rw [e6.out] at c2 c3
  obtain ⟨y7, e7⟩ : ∃ y, Hid (strB (32 :: servW k ++ [32, 61] ++ bL t) = y) := ⟨strB (32 :: servW k ++ [32, 61] ++ bL t), rfl⟩
  rw [e7.out] at c3 c4
  obtain ⟨y8, e8⟩ : ∃ y, Hid (strB (((kindW 6 ++ 32 :: digs h) ++ 32 :: sgns gr) ++ (32 :: servW k ++ [32, 61] ++ bL t)) = y) := ⟨strB (((kindW 6 ++ 32 :: digs h) ++ 32 :: sgns gr) ++ (32 :: servW k ++ [32, 61] ++ bL t)), rfl⟩
  rw [e8.out] at c4
  have k0 : (0 : Int) ≤ (k : Int) := by omega
  have k1 : (k : Int) < 4 := by omega
  clear l3 l4 l5
  replace HF : Hid (strB (outC (Ca.mk 6 h o g gr (k : Int) t)) = y8) := by show _ = _; rw [HF.out, e8.out]
  have pd := rdigits_ok h hf.2.1
  clear l1 l2
  have p2 := rsigned_ok gr hf.2.2.2.2.1.1 hf.2.2.2.2.1.2
  generalize strB (digs h) = x1 at pd a1
  generalize strB (sgns gr) = x2 at p2 a3
  clear e1 e2 e3 e4 e5 e6 e7 e8
  obtain ⟨kb, hkb⟩ : ∃ kb, Hid (kB 6 = kb) := ⟨_, rfl⟩
  rw [hkb.out] at a2
  obtain ⟨sb, hsb⟩ : ∃ sb, Hid (sB k = sb) := ⟨_, rfl⟩
  rw [hsb.out] at c1
  have b1 := blk_new w (Ca.mk 6 h o g gr (k : Int) t).arr 24
  have hB := below_box w (.cells (Ca.mk 6 h o g gr (k : Int) t).arr 24)
  have pm := rmay_ok (Ca.mk 6 h o g gr (k : Int) t)
  rw [hm] at pm
  go_enter Tryd.func14, Tryd.ntmps14
  go_upto_region 1 with fail
  try simp only [Act.put, List.setIfInBounds_toArray, List.set_cons_zero, List.set_cons_succ]
  generalize w.alloc (Obj.cells (Ca.mk 6 h o g gr (k : Int) t).arr 24) = W at b1 hB ⊢
  obtain ⟨z, hz⟩ : ∃ z, Hid (w.heap.size = z) := ⟨_, rfl⟩
  rw [hz.out] at b1 ⊢
  go_wp2_with (refine load_blk rfl 24 _ rfl b1 rfl Tryd.underlying24 rfl sizeCa ?_)
  refine (pm _).mono ?_
  rintro e V ⟨rfl, hb⟩
  replace b1 := b1.below hb
  replace hB := below_next hB hb
  clear hb pm
  go_upto_region 3 with fail
  try simp only [Act.put, List.setIfInBounds_toArray, List.set_cons_zero, List.set_cons_succ]
  refine wp_region_held_drew (S := fun v => Below V.heap.size V v) (by kernel_rfl) ((Below.refl _ _).drew) (fun hHeld => ?_)
  refine tkQ 1 hHeld ?_
  try simp only [yy]
  refine tkH 2 (v := ?v37) rfl (by kernel_rfl) (fun _ _ _ h => h) (Or.inl ⟨by rfl, ?hy37⟩) hHeld ?rest37
  case hy37 => (intro w hSw; have hc : World.cell? _ ⟨z, 0, none⟩ = some (.int .i64 6) := (b1.below hSw).cell 0 _ rfl; clear hSw; go_simp; try with_reducible rfl)
  try simp only [yy]
  refine rd1 0 (fun K hK => ?_)
  go_simp
  go_wp2_with (refine (rkinds_ok _).mono ?_; rintro r u1 ⟨⟨gk, rfl, hKi⟩, hb⟩)
  refine hK.out _ _ (below_next hHeld hb) (fun hHeld => ?_)
  clear hK K hb
  refine tkQ 3 hHeld ?_
  try simp only [yy]
  refine rd1 4 (fun K hK => ?_)
  rw [if_pos (by rfl)]
  refine wp_load_cell 9 _ rfl (.string kb) rfl (by rw [← hkb.out]; exact kLs_cell 6 (by decide) hKi) Tryd.underlying9 rfl ?_
  refine hK.out _ _ hHeld (fun hHeld => ?_)
  clear hK K 
  try simp only [yy]
  refine tkQ 5 hHeld ?_
  try simp only [yy]
  refine wpAnyH_done (by kernel_rfl) ?_ _
  rename World => U
  replace b1 := b1.below hHeld
  replace hB := below_next hB hHeld
  clear hHeld hKi
  have q0 : U.cell? ⟨z, 0, none⟩ = some (.int .i64 6) := b1.cell 0 _ rfl
  have q1 : U.cell? ⟨z, 1, none⟩ = some (.int .u64 (h : Int)) := b1.cell 1 _ rfl
  have q4 : U.cell? ⟨z, 4, none⟩ = some (.int .i64 gr) := b1.cell 4 _ rfl
  go_wp2_with fail
  refine (pd _).mono ?_
  rintro e u1 ⟨rfl, rfl⟩
  go_wp2_with fail
  refine (p2 _).mono ?_
  rintro e u2 ⟨rfl, rfl⟩
  go_upto_region 13 with fail
  try simp only [Act.put, List.setIfInBounds_toArray, List.set_cons_zero, List.set_cons_succ]
  refine wp_region_held_drew (S := fun v => Below u2.heap.size u2 v) (by kernel_rfl) ((Below.refl _ _).drew) (fun hHeld => ?_)
  refine tkQ 0 hHeld ?_
  try simp only [yy]
  refine tkQ 2 hHeld ?_
  try simp only [yy]
  refine tkH 3 (v := ?v27) rfl (by kernel_rfl) (fun _ _ _ h => h) (Or.inl ⟨by rfl, ?hy27⟩) hHeld ?rest27
  case hy27 => (intro w hSw; have hc : World.cell? _ ⟨z, 5, none⟩ = some (.int .i64 (k : Int)) := (b1.below hSw).cell 5 _ rfl; clear hSw; go_simp; try with_reducible rfl)
  try simp only [yy]
  refine tkQ 8 hHeld ?_
  try simp only [yy]
  refine tkH 9 (v := ?v29) rfl (by kernel_rfl) (fun _ _ _ h => h) (Or.inl ⟨by rfl, ?hy29⟩) hHeld ?rest29
  case hy29 => (intro w hSw; have hc : World.cell? _ ⟨z, 6, none⟩ = some (.string t) := (b1.below hSw).cell 6 _ rfl; clear hSw; go_simp; try with_reducible rfl)
  try simp only [yy]
  refine rd1 1 (fun K hK => ?_)
  go_simp
  go_wp2_with (refine (rservices_ok _).mono ?_; rintro r u1 ⟨⟨gs, rfl, hSi⟩, hb⟩)
  refine hK.out _ _ (below_next hHeld hb) (fun hHeld => ?_)
  clear hK K hb
  refine tkQ 4 hHeld ?_
  try simp only [yy]
  refine rd1 5 (fun K hK => ?_)
  rw [if_pos (by rfl)]
  refine wp_load_cell 9 _ rfl (.string sb) rfl (by rw [← hsb.out]; exact sLs_cell k hk3 hSi) Tryd.underlying9 rfl ?_
  refine hK.out _ _ hHeld (fun hHeld => ?_)
  clear hK K 
  try simp only [yy]
  refine tkQ 6 hHeld ?_
  try simp only [yy]
  refine tkQ 7 hHeld ?_
  try simp only [yy]
  refine tkQ 10 hHeld ?_
  try simp only [yy]
  refine tkQ 11 hHeld ?_
  try simp only [yy]
  refine tkQ 12 hHeld ?_
  try simp only [yy]
  refine wpAnyH_done (by kernel_rfl) ?_ _
  replace hB := below_next hB hHeld
  go_wp2_with fail
  go_ret
  exact ⟨by rw [HF.out]; rfl, hB⟩

theorem rprint_ok (c : Ca) (hf : c.fit) (w : World) : Calls Tryd.prog 14 #[.agg c.arr] w fun e w' => e = .returned (.string (strB (outC c))) ∧ Below w.heap.size w w' := by
  cases hm : mayC c with
  | false => exact rprintn c hm w
  | true =>
    have hM := (mayC_iff c).1 hm
    obtain ⟨d, h, o, g, gr, sv, t⟩ := c
    rcases hM with k | k | k | k | k | k | k
    all_goals (simp only at k; obtain rfl := k.1)
    · exact rprint0 h o g gr sv t hm hf w
    · exact rprint1 h o g gr sv t hm hf w
    · exact rprint2 h o g gr sv t hm hf w
    · exact rprint3 h o g gr sv t hm hf w
    · exact rprint4 h o g gr sv t hm hf w
    · exact rprint5 h o g gr sv t hm hf w
    · obtain ⟨j, rfl⟩ : ∃ j : Nat, sv = (j : Int) := ⟨sv.toNat, by omega⟩
      exact rprint6 h o g gr t j hm (by omega) hf w

end Go.Proofs.YtiepdfngjfhadaaDoor
