/-
  What the document's Parse answers, of whatever bytes; what its May answers.
  Conditions: a request has at most 140737488355328 bytes; a call as an argument.
-/
import Derived.Test.YtiepdfngjfhadaaDoorPaL
namespace Go.Proofs.YtiepdfngjfhadaaDoor
set_option maxRecDepth 10000
open Go.RowKit Go.Sort
set_option linter.unusedVariables false
set_option linter.unusedSimpArgs false

theorem rparse_ok (s : ByteArray) (hs : s.size ≤ 140737488355328) (w : World) : Calls Tryd.prog 9 #[.string s] w (RParse s w) := by
  by_cases h : ∃ d, d ≤ 6 ∧ kindW d = (cutL (bL s)).1
  · obtain ⟨d, hd, hk⟩ := h
    have : d = 0 ∨ d = 1 ∨ d = 2 ∨ d = 3 ∨ d = 4 ∨ d = 5 ∨ d = 6 := by omega
    rcases this with rfl | rfl | rfl | rfl | rfl | rfl | rfl
    · exact rparse0 s hs w hk
    · exact rparse1 s hs w hk
    · exact rparse2 s hs w hk
    · exact rparse3 s hs w hk
    · exact rparse4 s hs w hk
    · exact rparse5 s hs w hk
    · exact rparse6 s hs w hk
  · exact rparsen s hs w (fun d hd e => h ⟨d, hd, e⟩)

theorem may_no {c : Ca} (h : ¬ MayC c) : mayC c = false := by
  cases hm : mayC c
  · rfl
  · exact absurd ((mayC_iff c).1 hm) h
theorem may_same {c p : Ca} (h1 : p = c → MayC c) (h2 : MayC c → c = p) : Ca.same p c = mayC c := by
  by_cases h : p = c
  · rw [(Ca.same_iff p c).2 h, (mayC_iff c).2 (h1 h)]
  · rw [Ca.same_no h, may_no (fun hm => h (h2 hm).symm)]
theorem cells7 {w : World} {z : Nat} {d : Int} {h o : Nat} {g gr sv : Int} {t : ByteArray} (b2 : Blk z (Ca.mk d h o g gr sv t).arr 24 w) :
    w.cell? ⟨z, 0, none⟩ = some (.int .i64 d) ∧ w.cell? ⟨z, 1, none⟩ = some (.int .u64 (h : Int)) ∧ w.cell? ⟨z, 2, none⟩ = some (.int .u64 (o : Int)) ∧ w.cell? ⟨z, 3, none⟩ = some (.int .i64 g) ∧ w.cell? ⟨z, 4, none⟩ = some (.int .i64 gr) ∧ w.cell? ⟨z, 5, none⟩ = some (.int .i64 sv) ∧ w.cell? ⟨z, 6, none⟩ = some (.string t) :=
  ⟨b2.cell 0 _ rfl, b2.cell 1 _ rfl, b2.cell 2 _ rfl, b2.cell 3 _ rfl, b2.cell 4 _ rfl, b2.cell 5 _ rfl, b2.cell 6 _ rfl⟩

set_option maxHeartbeats 8000000 in
theorem rmayl (d : Int) (h o : Nat) (g gr sv : Int) (t : ByteArray) (hd : d < 0) (w : World) :
    Calls Tryd.prog 12 #[.agg (Ca.mk d h o g gr sv t).arr] w fun e w' => e = .returned (.bool (mayC (Ca.mk d h o g gr sv t))) ∧ Below w.heap.size w w' := by
  have hm : mayC (Ca.mk d h o g gr sv t) = false := may_no (fun hM => by
    rcases hM with k | k | k | k | k | k | k
    all_goals (simp only at k; omega))
  replace hm : Hid (mayC (Ca.mk d h o g gr sv t) = false) := hm
  have t1 : ¬ (1 : Int) ≤ d := by omega
  have t2 : ¬ (0 : Int) ≤ d := by omega
  have t3 : (d == 2) = false := by simp; omega
  have t4 : (d == 3) = false := by simp; omega
  have t5 : ¬ (4 : Int) ≤ d := by omega
  have t6 : (d == 6) = false := by simp; omega
  clear hd
  have b1 := blk_new w (Ca.mk d h o g gr sv t).arr 24
  have hB := below_box w (.cells (Ca.mk d h o g gr sv t).arr 24)
  have b2 := blk_new (w.alloc (.cells (Ca.mk d h o g gr sv t).arr 24)) (Ca.mk d 0 0 0 0 0 noT).arr 24
  replace b1 := b1.alloc (.cells (Ca.mk d 0 0 0 0 0 noT).arr 24)
  replace hB := hB.alloc hB.size (.cells (Ca.mk d 0 0 0 0 0 noT).arr 24)
  rw [alloc_size] at b2
  have cz : (w.alloc (.cells (Ca.mk d h o g gr sv t).arr 24)).cell? ⟨w.heap.size, 0, none⟩ = some (.int .i64 d) := (blk_new w (Ca.mk d h o g gr sv t).arr 24).cell 0 _ rfl
  go_enter Tryd.func12, Tryd.ntmps12
  go_upto_region 2 with (first | refine alloc_zero zeroCa rfl rfl ?_ | refine store_new rfl 24 _ _ rfl (cells := (Ca.mk d 0 0 0 0 0 noT).arr) rfl rfl sizeCa rfl (Ca.arr_one _) ?_)
  try simp only [Act.put, List.setIfInBounds_toArray, List.set_cons_zero, List.set_cons_succ, alloc_size]
  generalize (w.alloc (Obj.cells (Ca.mk d h o g gr sv t).arr 24)).alloc (Obj.cells (Ca.mk d 0 0 0 0 0 noT).arr 24) = W at b1 b2 hB ⊢
  clear cz
  obtain ⟨z, hz⟩ : ∃ z, Hid (w.heap.size = z) := ⟨_, rfl⟩
  have hzB : w.heap.size ≤ z := by rw [hz.out]; exact Nat.le_refl _
  rw [hz.out] at b1 b2 ⊢
  obtain ⟨p0, p1, p2, p3, p4, p5, p6⟩ := cells7 b1
  go_wp2_with fail
  go_ret
  exact ⟨by rw [hm.out]; rfl, hB⟩

set_option maxHeartbeats 8000000 in
theorem rmayh (d : Int) (h o : Nat) (g gr sv : Int) (t : ByteArray) (hd : 6 < d) (w : World) :
    Calls Tryd.prog 12 #[.agg (Ca.mk d h o g gr sv t).arr] w fun e w' => e = .returned (.bool (mayC (Ca.mk d h o g gr sv t))) ∧ Below w.heap.size w w' := by
  have hm : mayC (Ca.mk d h o g gr sv t) = false := may_no (fun hM => by
    rcases hM with k | k | k | k | k | k | k
    all_goals (simp only at k; omega))
  replace hm : Hid (mayC (Ca.mk d h o g gr sv t) = false) := hm
  have t1 : (1 : Int) ≤ d := by omega
  have t2 : (0 : Int) ≤ d := by omega
  have t3 : (d == 2) = false := by simp; omega
  have t4 : (d == 3) = false := by simp; omega
  have t5 : (4 : Int) ≤ d := by omega
  have t6 : (d == 6) = false := by simp; omega
  have t7 : ¬ d ≤ (6 : Int) := by omega
  clear hd
  have b1 := blk_new w (Ca.mk d h o g gr sv t).arr 24
  have hB := below_box w (.cells (Ca.mk d h o g gr sv t).arr 24)
  have b2 := blk_new (w.alloc (.cells (Ca.mk d h o g gr sv t).arr 24)) (Ca.mk d 0 0 0 0 0 noT).arr 24
  replace b1 := b1.alloc (.cells (Ca.mk d 0 0 0 0 0 noT).arr 24)
  replace hB := hB.alloc hB.size (.cells (Ca.mk d 0 0 0 0 0 noT).arr 24)
  rw [alloc_size] at b2
  have cz : (w.alloc (.cells (Ca.mk d h o g gr sv t).arr 24)).cell? ⟨w.heap.size, 0, none⟩ = some (.int .i64 d) := (blk_new w (Ca.mk d h o g gr sv t).arr 24).cell 0 _ rfl
  go_enter Tryd.func12, Tryd.ntmps12
  go_upto_region 2 with (first | refine alloc_zero zeroCa rfl rfl ?_ | refine store_new rfl 24 _ _ rfl (cells := (Ca.mk d 0 0 0 0 0 noT).arr) rfl rfl sizeCa rfl (Ca.arr_one _) ?_)
  try simp only [Act.put, List.setIfInBounds_toArray, List.set_cons_zero, List.set_cons_succ, alloc_size]
  generalize (w.alloc (Obj.cells (Ca.mk d h o g gr sv t).arr 24)).alloc (Obj.cells (Ca.mk d 0 0 0 0 0 noT).arr 24) = W at b1 b2 hB ⊢
  clear cz
  obtain ⟨z, hz⟩ : ∃ z, Hid (w.heap.size = z) := ⟨_, rfl⟩
  have hzB : w.heap.size ≤ z := by rw [hz.out]; exact Nat.le_refl _
  rw [hz.out] at b1 b2 ⊢
  obtain ⟨p0, p1, p2, p3, p4, p5, p6⟩ := cells7 b1
  go_wp2_with fail
  go_ret
  exact ⟨by rw [hm.out]; rfl, hB⟩

set_option maxHeartbeats 8000000 in
theorem rmay0 (h o : Nat) (g gr sv : Int) (t : ByteArray)  (w : World) :
    Calls Tryd.prog 12 #[.agg (Ca.mk 0 h o g gr sv t).arr] w fun e w' => e = .returned (.bool (mayC (Ca.mk 0 h o g gr sv t))) ∧ Below w.heap.size w w' := by
  have hm : Ca.same (Ca.mk 0 0 0 0 0 0 noT) (Ca.mk 0 h o g gr sv t) = mayC (Ca.mk 0 h o g gr sv t) := may_same (fun e => by rw [← e]; exact .inl ⟨rfl, rfl⟩) (fun hM => by
    rcases hM with k | k | k | k | k | k | k
    · exact k.2
    · exact absurd k.1 (by show ¬ (0 : Int) = 1; decide)
    · exact absurd k.1 (by show ¬ (0 : Int) = 2; decide)
    · exact absurd k.1 (by show ¬ (0 : Int) = 3; decide)
    · exact absurd k.1 (by show ¬ (0 : Int) = 4; decide)
    · exact absurd k.1 (by show ¬ (0 : Int) = 5; decide)
    · exact absurd k.1 (by show ¬ (0 : Int) = 6; decide)
  )
  obtain ⟨m, hmm⟩ : ∃ m, Hid (mayC (Ca.mk 0 h o g gr sv t) = m) := ⟨_, rfl⟩
  rw [hmm.out] at hm
  have nq := eqlCa (Ca.mk 0 0 0 0 0 0 noT) (Ca.mk 0 h o g gr sv t) m hm
  clear hm
  have b1 := blk_new w (Ca.mk 0 h o g gr sv t).arr 24
  have hB := below_box w (.cells (Ca.mk 0 h o g gr sv t).arr 24)
  have b2 := blk_new (w.alloc (.cells (Ca.mk 0 h o g gr sv t).arr 24)) (Ca.mk 0 0 0 0 0 0 noT).arr 24
  replace b1 := b1.alloc (.cells (Ca.mk 0 0 0 0 0 0 noT).arr 24)
  replace hB := hB.alloc hB.size (.cells (Ca.mk 0 0 0 0 0 0 noT).arr 24)
  rw [alloc_size] at b2
  have cz : (w.alloc (.cells (Ca.mk 0 h o g gr sv t).arr 24)).cell? ⟨w.heap.size, 0, none⟩ = some (.int .i64 0) := (blk_new w (Ca.mk 0 h o g gr sv t).arr 24).cell 0 _ rfl
  go_enter Tryd.func12, Tryd.ntmps12
  go_upto_region 2 with (first | refine alloc_zero zeroCa rfl rfl ?_ | refine store_new rfl 24 _ _ rfl (cells := (Ca.mk 0 0 0 0 0 0 noT).arr) rfl rfl sizeCa rfl (Ca.arr_one _) ?_)
  try simp only [Act.put, List.setIfInBounds_toArray, List.set_cons_zero, List.set_cons_succ, alloc_size]
  generalize (w.alloc (Obj.cells (Ca.mk 0 h o g gr sv t).arr 24)).alloc (Obj.cells (Ca.mk 0 0 0 0 0 0 noT).arr 24) = W at b1 b2 hB ⊢
  clear cz
  obtain ⟨z, hz⟩ : ∃ z, Hid (w.heap.size = z) := ⟨_, rfl⟩
  have hzB : w.heap.size ≤ z := by rw [hz.out]; exact Nat.le_refl _
  rw [hz.out] at b1 b2 ⊢
  obtain ⟨p0, p1, p2, p3, p4, p5, p6⟩ := cells7 b1
  go_wp2_with (first | refine load_want (by rfl) 24 _ rfl b2 rfl Tryd.underlying24 rfl sizeCa ?_ | refine load_want (by rfl) 24 _ rfl b1 rfl Tryd.underlying24 rfl sizeCa ?_)
  go_ret
  exact ⟨by rw [hmm.out]; rfl, hB⟩

set_option maxHeartbeats 8000000 in
theorem rmay1 (h o : Nat) (g gr sv : Int) (t : ByteArray)  (w : World) :
    Calls Tryd.prog 12 #[.agg (Ca.mk 1 h o g gr sv t).arr] w fun e w' => e = .returned (.bool (mayC (Ca.mk 1 h o g gr sv t))) ∧ Below w.heap.size w w' := by
  have hm : Ca.same (Ca.mk 1 h 0 0 0 0 noT) (Ca.mk 1 h o g gr sv t) = mayC (Ca.mk 1 h o g gr sv t) := may_same (fun e => by rw [← e]; exact .inr (.inl ⟨rfl, rfl⟩)) (fun hM => by
    rcases hM with k | k | k | k | k | k | k
    · exact absurd k.1 (by show ¬ (1 : Int) = 0; decide)
    · exact k.2
    · exact absurd k.1 (by show ¬ (1 : Int) = 2; decide)
    · exact absurd k.1 (by show ¬ (1 : Int) = 3; decide)
    · exact absurd k.1 (by show ¬ (1 : Int) = 4; decide)
    · exact absurd k.1 (by show ¬ (1 : Int) = 5; decide)
    · exact absurd k.1 (by show ¬ (1 : Int) = 6; decide)
  )
  obtain ⟨m, hmm⟩ : ∃ m, Hid (mayC (Ca.mk 1 h o g gr sv t) = m) := ⟨_, rfl⟩
  rw [hmm.out] at hm
  have nq := eqlCa (Ca.mk 1 h 0 0 0 0 noT) (Ca.mk 1 h o g gr sv t) m hm
  clear hm
  have b1 := blk_new w (Ca.mk 1 h o g gr sv t).arr 24
  have hB := below_box w (.cells (Ca.mk 1 h o g gr sv t).arr 24)
  have b2 := blk_new (w.alloc (.cells (Ca.mk 1 h o g gr sv t).arr 24)) (Ca.mk 1 0 0 0 0 0 noT).arr 24
  replace b1 := b1.alloc (.cells (Ca.mk 1 0 0 0 0 0 noT).arr 24)
  replace hB := hB.alloc hB.size (.cells (Ca.mk 1 0 0 0 0 0 noT).arr 24)
  rw [alloc_size] at b2
  have cz : (w.alloc (.cells (Ca.mk 1 h o g gr sv t).arr 24)).cell? ⟨w.heap.size, 0, none⟩ = some (.int .i64 1) := (blk_new w (Ca.mk 1 h o g gr sv t).arr 24).cell 0 _ rfl
  go_enter Tryd.func12, Tryd.ntmps12
  go_upto_region 2 with (first | refine alloc_zero zeroCa rfl rfl ?_ | refine store_new rfl 24 _ _ rfl (cells := (Ca.mk 1 0 0 0 0 0 noT).arr) rfl rfl sizeCa rfl (Ca.arr_one _) ?_)
  try simp only [Act.put, List.setIfInBounds_toArray, List.set_cons_zero, List.set_cons_succ, alloc_size]
  generalize (w.alloc (Obj.cells (Ca.mk 1 h o g gr sv t).arr 24)).alloc (Obj.cells (Ca.mk 1 0 0 0 0 0 noT).arr 24) = W at b1 b2 hB ⊢
  clear cz
  obtain ⟨z, hz⟩ : ∃ z, Hid (w.heap.size = z) := ⟨_, rfl⟩
  have hzB : w.heap.size ≤ z := by rw [hz.out]; exact Nat.le_refl _
  rw [hz.out] at b1 b2 ⊢
  obtain ⟨p0, p1, p2, p3, p4, p5, p6⟩ := cells7 b1
  go_wp2_with (first | (refine store_one rfl 22 _ _ rfl (off := 1) (.int .u64 (h : Int)) b2 rfl rfl rfl rfl size_u64 (show 1 + 1 ≤ 7 by decide) ?_; intro v0 q0 k0; have r0 : Blk (z + 1) (Ca.mk 1 h 0 0 0 0 noT).arr 24 v0 := q0; have s0 := b1.kp1 k0 (by omega); have B0 := hB.trans (k0.below1 (Nat.le_succ_of_le hzB) hB.size); obtain ⟨c00, c01, c02, c03, c04, c05, c06⟩ := cells7 s0) | refine load_want (by rfl) 24 _ rfl r0 rfl Tryd.underlying24 rfl sizeCa ?_ | refine load_want (by rfl) 24 _ rfl s0 rfl Tryd.underlying24 rfl sizeCa ?_)
  go_ret
  exact ⟨by rw [hmm.out]; rfl, B0⟩

set_option maxHeartbeats 8000000 in
theorem rmay2_lo (h o : Nat) (g gr sv : Int) (t : ByteArray) (h1 : ¬ 1 ≤ g) (w : World) :
    Calls Tryd.prog 12 #[.agg (Ca.mk 2 h o g gr sv t).arr] w fun e w' => e = .returned (.bool (mayC (Ca.mk 2 h o g gr sv t))) ∧ Below w.heap.size w w' := by
  have hm : mayC (Ca.mk 2 h o g gr sv t) = false := may_no (fun hM => by
    rcases hM with k | k | k | k | k | k | k
    all_goals (simp only at k; omega))
  replace hm : Hid (mayC (Ca.mk 2 h o g gr sv t) = false) := hm
  have b1 := blk_new w (Ca.mk 2 h o g gr sv t).arr 24
  have hB := below_box w (.cells (Ca.mk 2 h o g gr sv t).arr 24)
  have b2 := blk_new (w.alloc (.cells (Ca.mk 2 h o g gr sv t).arr 24)) (Ca.mk 2 0 0 0 0 0 noT).arr 24
  replace b1 := b1.alloc (.cells (Ca.mk 2 0 0 0 0 0 noT).arr 24)
  replace hB := hB.alloc hB.size (.cells (Ca.mk 2 0 0 0 0 0 noT).arr 24)
  rw [alloc_size] at b2
  have cz : (w.alloc (.cells (Ca.mk 2 h o g gr sv t).arr 24)).cell? ⟨w.heap.size, 0, none⟩ = some (.int .i64 2) := (blk_new w (Ca.mk 2 h o g gr sv t).arr 24).cell 0 _ rfl
  go_enter Tryd.func12, Tryd.ntmps12
  go_upto_region 2 with (first | refine alloc_zero zeroCa rfl rfl ?_ | refine store_new rfl 24 _ _ rfl (cells := (Ca.mk 2 0 0 0 0 0 noT).arr) rfl rfl sizeCa rfl (Ca.arr_one _) ?_)
  try simp only [Act.put, List.setIfInBounds_toArray, List.set_cons_zero, List.set_cons_succ, alloc_size]
  generalize (w.alloc (Obj.cells (Ca.mk 2 h o g gr sv t).arr 24)).alloc (Obj.cells (Ca.mk 2 0 0 0 0 0 noT).arr 24) = W at b1 b2 hB ⊢
  clear cz
  obtain ⟨z, hz⟩ : ∃ z, Hid (w.heap.size = z) := ⟨_, rfl⟩
  have hzB : w.heap.size ≤ z := by rw [hz.out]; exact Nat.le_refl _
  rw [hz.out] at b1 b2 ⊢
  obtain ⟨p0, p1, p2, p3, p4, p5, p6⟩ := cells7 b1
  go_wp2_with (first | (refine store_one rfl 22 _ _ rfl (off := 1) (.int .u64 (h : Int)) b2 rfl rfl rfl rfl size_u64 (show 1 + 1 ≤ 7 by decide) ?_; intro v0 q0 k0; have r0 : Blk (z + 1) (Ca.mk 2 h 0 0 0 0 noT).arr 24 v0 := q0; have s0 := b1.kp1 k0 (by omega); have B0 := hB.trans (k0.below1 (Nat.le_succ_of_le hzB) hB.size); obtain ⟨c00, c01, c02, c03, c04, c05, c06⟩ := cells7 s0) | (refine store_one rfl 3 _ _ rfl (off := 3) (.int .i64 g) r0 rfl rfl rfl rfl size_i64 (show 3 + 1 ≤ 7 by decide) ?_; intro v1 q1 k1; have r1 : Blk (z + 1) (Ca.mk 2 h 0 g 0 0 noT).arr 24 v1 := q1; have s1 := s0.kp1 k1 (by omega); have B1 := B0.trans (k1.below1 (Nat.le_succ_of_le hzB) B0.size); obtain ⟨c10, c11, c12, c13, c14, c15, c16⟩ := cells7 s1))
  go_ret
  exact ⟨by rw [hm.out]; rfl, B1⟩

set_option maxHeartbeats 8000000 in
theorem rmay2_hi (h o : Nat) (g gr sv : Int) (t : ByteArray) (h1 : 1 ≤ g) (h2 : ¬ g ≤ 7) (w : World) :
    Calls Tryd.prog 12 #[.agg (Ca.mk 2 h o g gr sv t).arr] w fun e w' => e = .returned (.bool (mayC (Ca.mk 2 h o g gr sv t))) ∧ Below w.heap.size w w' := by
  have hm : mayC (Ca.mk 2 h o g gr sv t) = false := may_no (fun hM => by
    rcases hM with k | k | k | k | k | k | k
    all_goals (simp only at k; omega))
  replace hm : Hid (mayC (Ca.mk 2 h o g gr sv t) = false) := hm
  have b1 := blk_new w (Ca.mk 2 h o g gr sv t).arr 24
  have hB := below_box w (.cells (Ca.mk 2 h o g gr sv t).arr 24)
  have b2 := blk_new (w.alloc (.cells (Ca.mk 2 h o g gr sv t).arr 24)) (Ca.mk 2 0 0 0 0 0 noT).arr 24
  replace b1 := b1.alloc (.cells (Ca.mk 2 0 0 0 0 0 noT).arr 24)
  replace hB := hB.alloc hB.size (.cells (Ca.mk 2 0 0 0 0 0 noT).arr 24)
  rw [alloc_size] at b2
  have cz : (w.alloc (.cells (Ca.mk 2 h o g gr sv t).arr 24)).cell? ⟨w.heap.size, 0, none⟩ = some (.int .i64 2) := (blk_new w (Ca.mk 2 h o g gr sv t).arr 24).cell 0 _ rfl
  go_enter Tryd.func12, Tryd.ntmps12
  go_upto_region 2 with (first | refine alloc_zero zeroCa rfl rfl ?_ | refine store_new rfl 24 _ _ rfl (cells := (Ca.mk 2 0 0 0 0 0 noT).arr) rfl rfl sizeCa rfl (Ca.arr_one _) ?_)
  try simp only [Act.put, List.setIfInBounds_toArray, List.set_cons_zero, List.set_cons_succ, alloc_size]
  generalize (w.alloc (Obj.cells (Ca.mk 2 h o g gr sv t).arr 24)).alloc (Obj.cells (Ca.mk 2 0 0 0 0 0 noT).arr 24) = W at b1 b2 hB ⊢
  clear cz
  obtain ⟨z, hz⟩ : ∃ z, Hid (w.heap.size = z) := ⟨_, rfl⟩
  have hzB : w.heap.size ≤ z := by rw [hz.out]; exact Nat.le_refl _
  rw [hz.out] at b1 b2 ⊢
  obtain ⟨p0, p1, p2, p3, p4, p5, p6⟩ := cells7 b1
  go_wp2_with (first | (refine store_one rfl 22 _ _ rfl (off := 1) (.int .u64 (h : Int)) b2 rfl rfl rfl rfl size_u64 (show 1 + 1 ≤ 7 by decide) ?_; intro v0 q0 k0; have r0 : Blk (z + 1) (Ca.mk 2 h 0 0 0 0 noT).arr 24 v0 := q0; have s0 := b1.kp1 k0 (by omega); have B0 := hB.trans (k0.below1 (Nat.le_succ_of_le hzB) hB.size); obtain ⟨c00, c01, c02, c03, c04, c05, c06⟩ := cells7 s0) | (refine store_one rfl 3 _ _ rfl (off := 3) (.int .i64 g) r0 rfl rfl rfl rfl size_i64 (show 3 + 1 ≤ 7 by decide) ?_; intro v1 q1 k1; have r1 : Blk (z + 1) (Ca.mk 2 h 0 g 0 0 noT).arr 24 v1 := q1; have s1 := s0.kp1 k1 (by omega); have B1 := B0.trans (k1.below1 (Nat.le_succ_of_le hzB) B0.size); obtain ⟨c10, c11, c12, c13, c14, c15, c16⟩ := cells7 s1))
  go_ret
  exact ⟨by rw [hm.out]; rfl, B1⟩

set_option maxHeartbeats 8000000 in
theorem rmay2_ok (h o : Nat) (g gr sv : Int) (t : ByteArray) (h1 : 1 ≤ g) (h2 : g ≤ 7) (w : World) :
    Calls Tryd.prog 12 #[.agg (Ca.mk 2 h o g gr sv t).arr] w fun e w' => e = .returned (.bool (mayC (Ca.mk 2 h o g gr sv t))) ∧ Below w.heap.size w w' := by
  have hm : Ca.same (Ca.mk 2 h 0 g 0 0 noT) (Ca.mk 2 h o g gr sv t) = mayC (Ca.mk 2 h o g gr sv t) := may_same (fun e => by rw [← e]; exact .inr (.inr (.inl ⟨rfl, h1, h2, rfl⟩))) (fun hM => by
    rcases hM with k | k | k | k | k | k | k
    · exact absurd k.1 (by show ¬ (2 : Int) = 0; decide)
    · exact absurd k.1 (by show ¬ (2 : Int) = 1; decide)
    · exact k.2.2.2
    · exact absurd k.1 (by show ¬ (2 : Int) = 3; decide)
    · exact absurd k.1 (by show ¬ (2 : Int) = 4; decide)
    · exact absurd k.1 (by show ¬ (2 : Int) = 5; decide)
    · exact absurd k.1 (by show ¬ (2 : Int) = 6; decide)
  )
  obtain ⟨m, hmm⟩ : ∃ m, Hid (mayC (Ca.mk 2 h o g gr sv t) = m) := ⟨_, rfl⟩
  rw [hmm.out] at hm
  have nq := eqlCa (Ca.mk 2 h 0 g 0 0 noT) (Ca.mk 2 h o g gr sv t) m hm
  clear hm
  have b1 := blk_new w (Ca.mk 2 h o g gr sv t).arr 24
  have hB := below_box w (.cells (Ca.mk 2 h o g gr sv t).arr 24)
  have b2 := blk_new (w.alloc (.cells (Ca.mk 2 h o g gr sv t).arr 24)) (Ca.mk 2 0 0 0 0 0 noT).arr 24
  replace b1 := b1.alloc (.cells (Ca.mk 2 0 0 0 0 0 noT).arr 24)
  replace hB := hB.alloc hB.size (.cells (Ca.mk 2 0 0 0 0 0 noT).arr 24)
  rw [alloc_size] at b2
  have cz : (w.alloc (.cells (Ca.mk 2 h o g gr sv t).arr 24)).cell? ⟨w.heap.size, 0, none⟩ = some (.int .i64 2) := (blk_new w (Ca.mk 2 h o g gr sv t).arr 24).cell 0 _ rfl
  go_enter Tryd.func12, Tryd.ntmps12
  go_upto_region 2 with (first | refine alloc_zero zeroCa rfl rfl ?_ | refine store_new rfl 24 _ _ rfl (cells := (Ca.mk 2 0 0 0 0 0 noT).arr) rfl rfl sizeCa rfl (Ca.arr_one _) ?_)
  try simp only [Act.put, List.setIfInBounds_toArray, List.set_cons_zero, List.set_cons_succ, alloc_size]
  generalize (w.alloc (Obj.cells (Ca.mk 2 h o g gr sv t).arr 24)).alloc (Obj.cells (Ca.mk 2 0 0 0 0 0 noT).arr 24) = W at b1 b2 hB ⊢
  clear cz
  obtain ⟨z, hz⟩ : ∃ z, Hid (w.heap.size = z) := ⟨_, rfl⟩
  have hzB : w.heap.size ≤ z := by rw [hz.out]; exact Nat.le_refl _
  rw [hz.out] at b1 b2 ⊢
  obtain ⟨p0, p1, p2, p3, p4, p5, p6⟩ := cells7 b1
  go_wp2_with (first | (refine store_one rfl 22 _ _ rfl (off := 1) (.int .u64 (h : Int)) b2 rfl rfl rfl rfl size_u64 (show 1 + 1 ≤ 7 by decide) ?_; intro v0 q0 k0; have r0 : Blk (z + 1) (Ca.mk 2 h 0 0 0 0 noT).arr 24 v0 := q0; have s0 := b1.kp1 k0 (by omega); have B0 := hB.trans (k0.below1 (Nat.le_succ_of_le hzB) hB.size); obtain ⟨c00, c01, c02, c03, c04, c05, c06⟩ := cells7 s0) | (refine store_one rfl 3 _ _ rfl (off := 3) (.int .i64 g) r0 rfl rfl rfl rfl size_i64 (show 3 + 1 ≤ 7 by decide) ?_; intro v1 q1 k1; have r1 : Blk (z + 1) (Ca.mk 2 h 0 g 0 0 noT).arr 24 v1 := q1; have s1 := s0.kp1 k1 (by omega); have B1 := B0.trans (k1.below1 (Nat.le_succ_of_le hzB) B0.size); obtain ⟨c10, c11, c12, c13, c14, c15, c16⟩ := cells7 s1) | refine load_want (by rfl) 24 _ rfl r1 rfl Tryd.underlying24 rfl sizeCa ?_ | refine load_want (by rfl) 24 _ rfl s1 rfl Tryd.underlying24 rfl sizeCa ?_)
  go_ret
  exact ⟨by rw [hmm.out]; rfl, B1⟩

set_option maxHeartbeats 8000000 in
theorem rmay3 (h o : Nat) (g gr sv : Int) (t : ByteArray)  (w : World) :
    Calls Tryd.prog 12 #[.agg (Ca.mk 3 h o g gr sv t).arr] w fun e w' => e = .returned (.bool (mayC (Ca.mk 3 h o g gr sv t))) ∧ Below w.heap.size w w' := by
  have hm : Ca.same (Ca.mk 3 h o 0 0 0 noT) (Ca.mk 3 h o g gr sv t) = mayC (Ca.mk 3 h o g gr sv t) := may_same (fun e => by rw [← e]; exact .inr (.inr (.inr (.inl ⟨rfl, rfl⟩)))) (fun hM => by
    rcases hM with k | k | k | k | k | k | k
    · exact absurd k.1 (by show ¬ (3 : Int) = 0; decide)
    · exact absurd k.1 (by show ¬ (3 : Int) = 1; decide)
    · exact absurd k.1 (by show ¬ (3 : Int) = 2; decide)
    · exact k.2
    · exact absurd k.1 (by show ¬ (3 : Int) = 4; decide)
    · exact absurd k.1 (by show ¬ (3 : Int) = 5; decide)
    · exact absurd k.1 (by show ¬ (3 : Int) = 6; decide)
  )
  obtain ⟨m, hmm⟩ : ∃ m, Hid (mayC (Ca.mk 3 h o g gr sv t) = m) := ⟨_, rfl⟩
  rw [hmm.out] at hm
  have nq := eqlCa (Ca.mk 3 h o 0 0 0 noT) (Ca.mk 3 h o g gr sv t) m hm
  clear hm
  have b1 := blk_new w (Ca.mk 3 h o g gr sv t).arr 24
  have hB := below_box w (.cells (Ca.mk 3 h o g gr sv t).arr 24)
  have b2 := blk_new (w.alloc (.cells (Ca.mk 3 h o g gr sv t).arr 24)) (Ca.mk 3 0 0 0 0 0 noT).arr 24
  replace b1 := b1.alloc (.cells (Ca.mk 3 0 0 0 0 0 noT).arr 24)
  replace hB := hB.alloc hB.size (.cells (Ca.mk 3 0 0 0 0 0 noT).arr 24)
  rw [alloc_size] at b2
  have cz : (w.alloc (.cells (Ca.mk 3 h o g gr sv t).arr 24)).cell? ⟨w.heap.size, 0, none⟩ = some (.int .i64 3) := (blk_new w (Ca.mk 3 h o g gr sv t).arr 24).cell 0 _ rfl
  go_enter Tryd.func12, Tryd.ntmps12
  go_upto_region 2 with (first | refine alloc_zero zeroCa rfl rfl ?_ | refine store_new rfl 24 _ _ rfl (cells := (Ca.mk 3 0 0 0 0 0 noT).arr) rfl rfl sizeCa rfl (Ca.arr_one _) ?_)
  try simp only [Act.put, List.setIfInBounds_toArray, List.set_cons_zero, List.set_cons_succ, alloc_size]
  generalize (w.alloc (Obj.cells (Ca.mk 3 h o g gr sv t).arr 24)).alloc (Obj.cells (Ca.mk 3 0 0 0 0 0 noT).arr 24) = W at b1 b2 hB ⊢
  clear cz
  obtain ⟨z, hz⟩ : ∃ z, Hid (w.heap.size = z) := ⟨_, rfl⟩
  have hzB : w.heap.size ≤ z := by rw [hz.out]; exact Nat.le_refl _
  rw [hz.out] at b1 b2 ⊢
  obtain ⟨p0, p1, p2, p3, p4, p5, p6⟩ := cells7 b1
  go_wp2_with (first | (refine store_one rfl 22 _ _ rfl (off := 1) (.int .u64 (h : Int)) b2 rfl rfl rfl rfl size_u64 (show 1 + 1 ≤ 7 by decide) ?_; intro v0 q0 k0; have r0 : Blk (z + 1) (Ca.mk 3 h 0 0 0 0 noT).arr 24 v0 := q0; have s0 := b1.kp1 k0 (by omega); have B0 := hB.trans (k0.below1 (Nat.le_succ_of_le hzB) hB.size); obtain ⟨c00, c01, c02, c03, c04, c05, c06⟩ := cells7 s0) | (refine store_one rfl 22 _ _ rfl (off := 2) (.int .u64 (o : Int)) r0 rfl rfl rfl rfl size_u64 (show 2 + 1 ≤ 7 by decide) ?_; intro v1 q1 k1; have r1 : Blk (z + 1) (Ca.mk 3 h o 0 0 0 noT).arr 24 v1 := q1; have s1 := s0.kp1 k1 (by omega); have B1 := B0.trans (k1.below1 (Nat.le_succ_of_le hzB) B0.size); obtain ⟨c10, c11, c12, c13, c14, c15, c16⟩ := cells7 s1) | refine load_want (by rfl) 24 _ rfl r1 rfl Tryd.underlying24 rfl sizeCa ?_ | refine load_want (by rfl) 24 _ rfl s1 rfl Tryd.underlying24 rfl sizeCa ?_)
  go_ret
  exact ⟨by rw [hmm.out]; rfl, B1⟩

set_option maxHeartbeats 8000000 in
theorem rmay4_lo (h o : Nat) (g gr sv : Int) (t : ByteArray) (h1 : ¬ 0 ≤ gr) (w : World) :
    Calls Tryd.prog 12 #[.agg (Ca.mk 4 h o g gr sv t).arr] w fun e w' => e = .returned (.bool (mayC (Ca.mk 4 h o g gr sv t))) ∧ Below w.heap.size w w' := by
  have hm : mayC (Ca.mk 4 h o g gr sv t) = false := may_no (fun hM => by
    rcases hM with k | k | k | k | k | k | k
    all_goals (simp only at k; omega))
  replace hm : Hid (mayC (Ca.mk 4 h o g gr sv t) = false) := hm
  have b1 := blk_new w (Ca.mk 4 h o g gr sv t).arr 24
  have hB := below_box w (.cells (Ca.mk 4 h o g gr sv t).arr 24)
  have b2 := blk_new (w.alloc (.cells (Ca.mk 4 h o g gr sv t).arr 24)) (Ca.mk 4 0 0 0 0 0 noT).arr 24
  replace b1 := b1.alloc (.cells (Ca.mk 4 0 0 0 0 0 noT).arr 24)
  replace hB := hB.alloc hB.size (.cells (Ca.mk 4 0 0 0 0 0 noT).arr 24)
  rw [alloc_size] at b2
  have cz : (w.alloc (.cells (Ca.mk 4 h o g gr sv t).arr 24)).cell? ⟨w.heap.size, 0, none⟩ = some (.int .i64 4) := (blk_new w (Ca.mk 4 h o g gr sv t).arr 24).cell 0 _ rfl
  go_enter Tryd.func12, Tryd.ntmps12
  go_upto_region 2 with (first | refine alloc_zero zeroCa rfl rfl ?_ | refine store_new rfl 24 _ _ rfl (cells := (Ca.mk 4 0 0 0 0 0 noT).arr) rfl rfl sizeCa rfl (Ca.arr_one _) ?_)
  try simp only [Act.put, List.setIfInBounds_toArray, List.set_cons_zero, List.set_cons_succ, alloc_size]
  generalize (w.alloc (Obj.cells (Ca.mk 4 h o g gr sv t).arr 24)).alloc (Obj.cells (Ca.mk 4 0 0 0 0 0 noT).arr 24) = W at b1 b2 hB ⊢
  clear cz
  obtain ⟨z, hz⟩ : ∃ z, Hid (w.heap.size = z) := ⟨_, rfl⟩
  have hzB : w.heap.size ≤ z := by rw [hz.out]; exact Nat.le_refl _
  rw [hz.out] at b1 b2 ⊢
  obtain ⟨p0, p1, p2, p3, p4, p5, p6⟩ := cells7 b1
  go_wp2_with (first | (refine store_one rfl 22 _ _ rfl (off := 1) (.int .u64 (h : Int)) b2 rfl rfl rfl rfl size_u64 (show 1 + 1 ≤ 7 by decide) ?_; intro v0 q0 k0; have r0 : Blk (z + 1) (Ca.mk 4 h 0 0 0 0 noT).arr 24 v0 := q0; have s0 := b1.kp1 k0 (by omega); have B0 := hB.trans (k0.below1 (Nat.le_succ_of_le hzB) hB.size); obtain ⟨c00, c01, c02, c03, c04, c05, c06⟩ := cells7 s0) | (refine store_one rfl 3 _ _ rfl (off := 4) (.int .i64 gr) r0 rfl rfl rfl rfl size_i64 (show 4 + 1 ≤ 7 by decide) ?_; intro v1 q1 k1; have r1 : Blk (z + 1) (Ca.mk 4 h 0 0 gr 0 noT).arr 24 v1 := q1; have s1 := s0.kp1 k1 (by omega); have B1 := B0.trans (k1.below1 (Nat.le_succ_of_le hzB) B0.size); obtain ⟨c10, c11, c12, c13, c14, c15, c16⟩ := cells7 s1))
  go_ret
  exact ⟨by rw [hm.out]; rfl, B1⟩

set_option maxHeartbeats 8000000 in
theorem rmay4_hi (h o : Nat) (g gr sv : Int) (t : ByteArray) (h1 : 0 ≤ gr) (h2 : ¬ gr ≤ 7) (w : World) :
    Calls Tryd.prog 12 #[.agg (Ca.mk 4 h o g gr sv t).arr] w fun e w' => e = .returned (.bool (mayC (Ca.mk 4 h o g gr sv t))) ∧ Below w.heap.size w w' := by
  have hm : mayC (Ca.mk 4 h o g gr sv t) = false := may_no (fun hM => by
    rcases hM with k | k | k | k | k | k | k
    all_goals (simp only at k; omega))
  replace hm : Hid (mayC (Ca.mk 4 h o g gr sv t) = false) := hm
  have b1 := blk_new w (Ca.mk 4 h o g gr sv t).arr 24
  have hB := below_box w (.cells (Ca.mk 4 h o g gr sv t).arr 24)
  have b2 := blk_new (w.alloc (.cells (Ca.mk 4 h o g gr sv t).arr 24)) (Ca.mk 4 0 0 0 0 0 noT).arr 24
  replace b1 := b1.alloc (.cells (Ca.mk 4 0 0 0 0 0 noT).arr 24)
  replace hB := hB.alloc hB.size (.cells (Ca.mk 4 0 0 0 0 0 noT).arr 24)
  rw [alloc_size] at b2
  have cz : (w.alloc (.cells (Ca.mk 4 h o g gr sv t).arr 24)).cell? ⟨w.heap.size, 0, none⟩ = some (.int .i64 4) := (blk_new w (Ca.mk 4 h o g gr sv t).arr 24).cell 0 _ rfl
  go_enter Tryd.func12, Tryd.ntmps12
  go_upto_region 2 with (first | refine alloc_zero zeroCa rfl rfl ?_ | refine store_new rfl 24 _ _ rfl (cells := (Ca.mk 4 0 0 0 0 0 noT).arr) rfl rfl sizeCa rfl (Ca.arr_one _) ?_)
  try simp only [Act.put, List.setIfInBounds_toArray, List.set_cons_zero, List.set_cons_succ, alloc_size]
  generalize (w.alloc (Obj.cells (Ca.mk 4 h o g gr sv t).arr 24)).alloc (Obj.cells (Ca.mk 4 0 0 0 0 0 noT).arr 24) = W at b1 b2 hB ⊢
  clear cz
  obtain ⟨z, hz⟩ : ∃ z, Hid (w.heap.size = z) := ⟨_, rfl⟩
  have hzB : w.heap.size ≤ z := by rw [hz.out]; exact Nat.le_refl _
  rw [hz.out] at b1 b2 ⊢
  obtain ⟨p0, p1, p2, p3, p4, p5, p6⟩ := cells7 b1
  go_wp2_with (first | (refine store_one rfl 22 _ _ rfl (off := 1) (.int .u64 (h : Int)) b2 rfl rfl rfl rfl size_u64 (show 1 + 1 ≤ 7 by decide) ?_; intro v0 q0 k0; have r0 : Blk (z + 1) (Ca.mk 4 h 0 0 0 0 noT).arr 24 v0 := q0; have s0 := b1.kp1 k0 (by omega); have B0 := hB.trans (k0.below1 (Nat.le_succ_of_le hzB) hB.size); obtain ⟨c00, c01, c02, c03, c04, c05, c06⟩ := cells7 s0) | (refine store_one rfl 3 _ _ rfl (off := 4) (.int .i64 gr) r0 rfl rfl rfl rfl size_i64 (show 4 + 1 ≤ 7 by decide) ?_; intro v1 q1 k1; have r1 : Blk (z + 1) (Ca.mk 4 h 0 0 gr 0 noT).arr 24 v1 := q1; have s1 := s0.kp1 k1 (by omega); have B1 := B0.trans (k1.below1 (Nat.le_succ_of_le hzB) B0.size); obtain ⟨c10, c11, c12, c13, c14, c15, c16⟩ := cells7 s1))
  go_ret
  exact ⟨by rw [hm.out]; rfl, B1⟩

set_option maxHeartbeats 8000000 in
theorem rmay4_ok (h o : Nat) (g gr sv : Int) (t : ByteArray) (h1 : 0 ≤ gr) (h2 : gr ≤ 7) (w : World) :
    Calls Tryd.prog 12 #[.agg (Ca.mk 4 h o g gr sv t).arr] w fun e w' => e = .returned (.bool (mayC (Ca.mk 4 h o g gr sv t))) ∧ Below w.heap.size w w' := by
  have hm : Ca.same (Ca.mk 4 h 0 0 gr 0 noT) (Ca.mk 4 h o g gr sv t) = mayC (Ca.mk 4 h o g gr sv t) := may_same (fun e => by rw [← e]; exact .inr (.inr (.inr (.inr (.inl ⟨rfl, h1, h2, rfl⟩))))) (fun hM => by
    rcases hM with k | k | k | k | k | k | k
    · exact absurd k.1 (by show ¬ (4 : Int) = 0; decide)
    · exact absurd k.1 (by show ¬ (4 : Int) = 1; decide)
    · exact absurd k.1 (by show ¬ (4 : Int) = 2; decide)
    · exact absurd k.1 (by show ¬ (4 : Int) = 3; decide)
    · exact k.2.2.2
    · exact absurd k.1 (by show ¬ (4 : Int) = 5; decide)
    · exact absurd k.1 (by show ¬ (4 : Int) = 6; decide)
  )
  obtain ⟨m, hmm⟩ : ∃ m, Hid (mayC (Ca.mk 4 h o g gr sv t) = m) := ⟨_, rfl⟩
  rw [hmm.out] at hm
  have nq := eqlCa (Ca.mk 4 h 0 0 gr 0 noT) (Ca.mk 4 h o g gr sv t) m hm
  clear hm
  have b1 := blk_new w (Ca.mk 4 h o g gr sv t).arr 24
  have hB := below_box w (.cells (Ca.mk 4 h o g gr sv t).arr 24)
  have b2 := blk_new (w.alloc (.cells (Ca.mk 4 h o g gr sv t).arr 24)) (Ca.mk 4 0 0 0 0 0 noT).arr 24
  replace b1 := b1.alloc (.cells (Ca.mk 4 0 0 0 0 0 noT).arr 24)
  replace hB := hB.alloc hB.size (.cells (Ca.mk 4 0 0 0 0 0 noT).arr 24)
  rw [alloc_size] at b2
  have cz : (w.alloc (.cells (Ca.mk 4 h o g gr sv t).arr 24)).cell? ⟨w.heap.size, 0, none⟩ = some (.int .i64 4) := (blk_new w (Ca.mk 4 h o g gr sv t).arr 24).cell 0 _ rfl
  go_enter Tryd.func12, Tryd.ntmps12
  go_upto_region 2 with (first | refine alloc_zero zeroCa rfl rfl ?_ | refine store_new rfl 24 _ _ rfl (cells := (Ca.mk 4 0 0 0 0 0 noT).arr) rfl rfl sizeCa rfl (Ca.arr_one _) ?_)
  try simp only [Act.put, List.setIfInBounds_toArray, List.set_cons_zero, List.set_cons_succ, alloc_size]
  generalize (w.alloc (Obj.cells (Ca.mk 4 h o g gr sv t).arr 24)).alloc (Obj.cells (Ca.mk 4 0 0 0 0 0 noT).arr 24) = W at b1 b2 hB ⊢
  clear cz
  obtain ⟨z, hz⟩ : ∃ z, Hid (w.heap.size = z) := ⟨_, rfl⟩
  have hzB : w.heap.size ≤ z := by rw [hz.out]; exact Nat.le_refl _
  rw [hz.out] at b1 b2 ⊢
  obtain ⟨p0, p1, p2, p3, p4, p5, p6⟩ := cells7 b1
  go_wp2_with (first | (refine store_one rfl 22 _ _ rfl (off := 1) (.int .u64 (h : Int)) b2 rfl rfl rfl rfl size_u64 (show 1 + 1 ≤ 7 by decide) ?_; intro v0 q0 k0; have r0 : Blk (z + 1) (Ca.mk 4 h 0 0 0 0 noT).arr 24 v0 := q0; have s0 := b1.kp1 k0 (by omega); have B0 := hB.trans (k0.below1 (Nat.le_succ_of_le hzB) hB.size); obtain ⟨c00, c01, c02, c03, c04, c05, c06⟩ := cells7 s0) | (refine store_one rfl 3 _ _ rfl (off := 4) (.int .i64 gr) r0 rfl rfl rfl rfl size_i64 (show 4 + 1 ≤ 7 by decide) ?_; intro v1 q1 k1; have r1 : Blk (z + 1) (Ca.mk 4 h 0 0 gr 0 noT).arr 24 v1 := q1; have s1 := s0.kp1 k1 (by omega); have B1 := B0.trans (k1.below1 (Nat.le_succ_of_le hzB) B0.size); obtain ⟨c10, c11, c12, c13, c14, c15, c16⟩ := cells7 s1) | refine load_want (by rfl) 24 _ rfl r1 rfl Tryd.underlying24 rfl sizeCa ?_ | refine load_want (by rfl) 24 _ rfl s1 rfl Tryd.underlying24 rfl sizeCa ?_)
  go_ret
  exact ⟨by rw [hmm.out]; rfl, B1⟩

set_option maxHeartbeats 8000000 in
theorem rmay5_lo (h o : Nat) (g gr sv : Int) (t : ByteArray) (h1 : ¬ 0 ≤ gr) (w : World) :
    Calls Tryd.prog 12 #[.agg (Ca.mk 5 h o g gr sv t).arr] w fun e w' => e = .returned (.bool (mayC (Ca.mk 5 h o g gr sv t))) ∧ Below w.heap.size w w' := by
  have hm : mayC (Ca.mk 5 h o g gr sv t) = false := may_no (fun hM => by
    rcases hM with k | k | k | k | k | k | k
    all_goals (simp only at k; omega))
  replace hm : Hid (mayC (Ca.mk 5 h o g gr sv t) = false) := hm
  have b1 := blk_new w (Ca.mk 5 h o g gr sv t).arr 24
  have hB := below_box w (.cells (Ca.mk 5 h o g gr sv t).arr 24)
  have b2 := blk_new (w.alloc (.cells (Ca.mk 5 h o g gr sv t).arr 24)) (Ca.mk 5 0 0 0 0 0 noT).arr 24
  replace b1 := b1.alloc (.cells (Ca.mk 5 0 0 0 0 0 noT).arr 24)
  replace hB := hB.alloc hB.size (.cells (Ca.mk 5 0 0 0 0 0 noT).arr 24)
  rw [alloc_size] at b2
  have cz : (w.alloc (.cells (Ca.mk 5 h o g gr sv t).arr 24)).cell? ⟨w.heap.size, 0, none⟩ = some (.int .i64 5) := (blk_new w (Ca.mk 5 h o g gr sv t).arr 24).cell 0 _ rfl
  go_enter Tryd.func12, Tryd.ntmps12
  go_upto_region 2 with (first | refine alloc_zero zeroCa rfl rfl ?_ | refine store_new rfl 24 _ _ rfl (cells := (Ca.mk 5 0 0 0 0 0 noT).arr) rfl rfl sizeCa rfl (Ca.arr_one _) ?_)
  try simp only [Act.put, List.setIfInBounds_toArray, List.set_cons_zero, List.set_cons_succ, alloc_size]
  generalize (w.alloc (Obj.cells (Ca.mk 5 h o g gr sv t).arr 24)).alloc (Obj.cells (Ca.mk 5 0 0 0 0 0 noT).arr 24) = W at b1 b2 hB ⊢
  clear cz
  obtain ⟨z, hz⟩ : ∃ z, Hid (w.heap.size = z) := ⟨_, rfl⟩
  have hzB : w.heap.size ≤ z := by rw [hz.out]; exact Nat.le_refl _
  rw [hz.out] at b1 b2 ⊢
  obtain ⟨p0, p1, p2, p3, p4, p5, p6⟩ := cells7 b1
  go_wp2_with (first | (refine store_one rfl 22 _ _ rfl (off := 1) (.int .u64 (h : Int)) b2 rfl rfl rfl rfl size_u64 (show 1 + 1 ≤ 7 by decide) ?_; intro v0 q0 k0; have r0 : Blk (z + 1) (Ca.mk 5 h 0 0 0 0 noT).arr 24 v0 := q0; have s0 := b1.kp1 k0 (by omega); have B0 := hB.trans (k0.below1 (Nat.le_succ_of_le hzB) hB.size); obtain ⟨c00, c01, c02, c03, c04, c05, c06⟩ := cells7 s0) | (refine store_one rfl 3 _ _ rfl (off := 4) (.int .i64 gr) r0 rfl rfl rfl rfl size_i64 (show 4 + 1 ≤ 7 by decide) ?_; intro v1 q1 k1; have r1 : Blk (z + 1) (Ca.mk 5 h 0 0 gr 0 noT).arr 24 v1 := q1; have s1 := s0.kp1 k1 (by omega); have B1 := B0.trans (k1.below1 (Nat.le_succ_of_le hzB) B0.size); obtain ⟨c10, c11, c12, c13, c14, c15, c16⟩ := cells7 s1))
  go_ret
  exact ⟨by rw [hm.out]; rfl, B1⟩

set_option maxHeartbeats 8000000 in
theorem rmay5_hi (h o : Nat) (g gr sv : Int) (t : ByteArray) (h1 : 0 ≤ gr) (h2 : ¬ gr ≤ 7) (w : World) :
    Calls Tryd.prog 12 #[.agg (Ca.mk 5 h o g gr sv t).arr] w fun e w' => e = .returned (.bool (mayC (Ca.mk 5 h o g gr sv t))) ∧ Below w.heap.size w w' := by
  have hm : mayC (Ca.mk 5 h o g gr sv t) = false := may_no (fun hM => by
    rcases hM with k | k | k | k | k | k | k
    all_goals (simp only at k; omega))
  replace hm : Hid (mayC (Ca.mk 5 h o g gr sv t) = false) := hm
  have b1 := blk_new w (Ca.mk 5 h o g gr sv t).arr 24
  have hB := below_box w (.cells (Ca.mk 5 h o g gr sv t).arr 24)
  have b2 := blk_new (w.alloc (.cells (Ca.mk 5 h o g gr sv t).arr 24)) (Ca.mk 5 0 0 0 0 0 noT).arr 24
  replace b1 := b1.alloc (.cells (Ca.mk 5 0 0 0 0 0 noT).arr 24)
  replace hB := hB.alloc hB.size (.cells (Ca.mk 5 0 0 0 0 0 noT).arr 24)
  rw [alloc_size] at b2
  have cz : (w.alloc (.cells (Ca.mk 5 h o g gr sv t).arr 24)).cell? ⟨w.heap.size, 0, none⟩ = some (.int .i64 5) := (blk_new w (Ca.mk 5 h o g gr sv t).arr 24).cell 0 _ rfl
  go_enter Tryd.func12, Tryd.ntmps12
  go_upto_region 2 with (first | refine alloc_zero zeroCa rfl rfl ?_ | refine store_new rfl 24 _ _ rfl (cells := (Ca.mk 5 0 0 0 0 0 noT).arr) rfl rfl sizeCa rfl (Ca.arr_one _) ?_)
  try simp only [Act.put, List.setIfInBounds_toArray, List.set_cons_zero, List.set_cons_succ, alloc_size]
  generalize (w.alloc (Obj.cells (Ca.mk 5 h o g gr sv t).arr 24)).alloc (Obj.cells (Ca.mk 5 0 0 0 0 0 noT).arr 24) = W at b1 b2 hB ⊢
  clear cz
  obtain ⟨z, hz⟩ : ∃ z, Hid (w.heap.size = z) := ⟨_, rfl⟩
  have hzB : w.heap.size ≤ z := by rw [hz.out]; exact Nat.le_refl _
  rw [hz.out] at b1 b2 ⊢
  obtain ⟨p0, p1, p2, p3, p4, p5, p6⟩ := cells7 b1
  go_wp2_with (first | (refine store_one rfl 22 _ _ rfl (off := 1) (.int .u64 (h : Int)) b2 rfl rfl rfl rfl size_u64 (show 1 + 1 ≤ 7 by decide) ?_; intro v0 q0 k0; have r0 : Blk (z + 1) (Ca.mk 5 h 0 0 0 0 noT).arr 24 v0 := q0; have s0 := b1.kp1 k0 (by omega); have B0 := hB.trans (k0.below1 (Nat.le_succ_of_le hzB) hB.size); obtain ⟨c00, c01, c02, c03, c04, c05, c06⟩ := cells7 s0) | (refine store_one rfl 3 _ _ rfl (off := 4) (.int .i64 gr) r0 rfl rfl rfl rfl size_i64 (show 4 + 1 ≤ 7 by decide) ?_; intro v1 q1 k1; have r1 : Blk (z + 1) (Ca.mk 5 h 0 0 gr 0 noT).arr 24 v1 := q1; have s1 := s0.kp1 k1 (by omega); have B1 := B0.trans (k1.below1 (Nat.le_succ_of_le hzB) B0.size); obtain ⟨c10, c11, c12, c13, c14, c15, c16⟩ := cells7 s1))
  go_ret
  exact ⟨by rw [hm.out]; rfl, B1⟩

set_option maxHeartbeats 8000000 in
theorem rmay5_ok (h o : Nat) (g gr sv : Int) (t : ByteArray) (h1 : 0 ≤ gr) (h2 : gr ≤ 7) (w : World) :
    Calls Tryd.prog 12 #[.agg (Ca.mk 5 h o g gr sv t).arr] w fun e w' => e = .returned (.bool (mayC (Ca.mk 5 h o g gr sv t))) ∧ Below w.heap.size w w' := by
  have hm : Ca.same (Ca.mk 5 h 0 0 gr 0 noT) (Ca.mk 5 h o g gr sv t) = mayC (Ca.mk 5 h o g gr sv t) := may_same (fun e => by rw [← e]; exact .inr (.inr (.inr (.inr (.inr (.inl ⟨rfl, h1, h2, rfl⟩)))))) (fun hM => by
    rcases hM with k | k | k | k | k | k | k
    · exact absurd k.1 (by show ¬ (5 : Int) = 0; decide)
    · exact absurd k.1 (by show ¬ (5 : Int) = 1; decide)
    · exact absurd k.1 (by show ¬ (5 : Int) = 2; decide)
    · exact absurd k.1 (by show ¬ (5 : Int) = 3; decide)
    · exact absurd k.1 (by show ¬ (5 : Int) = 4; decide)
    · exact k.2.2.2
    · exact absurd k.1 (by show ¬ (5 : Int) = 6; decide)
  )
  obtain ⟨m, hmm⟩ : ∃ m, Hid (mayC (Ca.mk 5 h o g gr sv t) = m) := ⟨_, rfl⟩
  rw [hmm.out] at hm
  have nq := eqlCa (Ca.mk 5 h 0 0 gr 0 noT) (Ca.mk 5 h o g gr sv t) m hm
  clear hm
  have b1 := blk_new w (Ca.mk 5 h o g gr sv t).arr 24
  have hB := below_box w (.cells (Ca.mk 5 h o g gr sv t).arr 24)
  have b2 := blk_new (w.alloc (.cells (Ca.mk 5 h o g gr sv t).arr 24)) (Ca.mk 5 0 0 0 0 0 noT).arr 24
  replace b1 := b1.alloc (.cells (Ca.mk 5 0 0 0 0 0 noT).arr 24)
  replace hB := hB.alloc hB.size (.cells (Ca.mk 5 0 0 0 0 0 noT).arr 24)
  rw [alloc_size] at b2
  have cz : (w.alloc (.cells (Ca.mk 5 h o g gr sv t).arr 24)).cell? ⟨w.heap.size, 0, none⟩ = some (.int .i64 5) := (blk_new w (Ca.mk 5 h o g gr sv t).arr 24).cell 0 _ rfl
  go_enter Tryd.func12, Tryd.ntmps12
  go_upto_region 2 with (first | refine alloc_zero zeroCa rfl rfl ?_ | refine store_new rfl 24 _ _ rfl (cells := (Ca.mk 5 0 0 0 0 0 noT).arr) rfl rfl sizeCa rfl (Ca.arr_one _) ?_)
  try simp only [Act.put, List.setIfInBounds_toArray, List.set_cons_zero, List.set_cons_succ, alloc_size]
  generalize (w.alloc (Obj.cells (Ca.mk 5 h o g gr sv t).arr 24)).alloc (Obj.cells (Ca.mk 5 0 0 0 0 0 noT).arr 24) = W at b1 b2 hB ⊢
  clear cz
  obtain ⟨z, hz⟩ : ∃ z, Hid (w.heap.size = z) := ⟨_, rfl⟩
  have hzB : w.heap.size ≤ z := by rw [hz.out]; exact Nat.le_refl _
  rw [hz.out] at b1 b2 ⊢
  obtain ⟨p0, p1, p2, p3, p4, p5, p6⟩ := cells7 b1
  go_wp2_with (first | (refine store_one rfl 22 _ _ rfl (off := 1) (.int .u64 (h : Int)) b2 rfl rfl rfl rfl size_u64 (show 1 + 1 ≤ 7 by decide) ?_; intro v0 q0 k0; have r0 : Blk (z + 1) (Ca.mk 5 h 0 0 0 0 noT).arr 24 v0 := q0; have s0 := b1.kp1 k0 (by omega); have B0 := hB.trans (k0.below1 (Nat.le_succ_of_le hzB) hB.size); obtain ⟨c00, c01, c02, c03, c04, c05, c06⟩ := cells7 s0) | (refine store_one rfl 3 _ _ rfl (off := 4) (.int .i64 gr) r0 rfl rfl rfl rfl size_i64 (show 4 + 1 ≤ 7 by decide) ?_; intro v1 q1 k1; have r1 : Blk (z + 1) (Ca.mk 5 h 0 0 gr 0 noT).arr 24 v1 := q1; have s1 := s0.kp1 k1 (by omega); have B1 := B0.trans (k1.below1 (Nat.le_succ_of_le hzB) B0.size); obtain ⟨c10, c11, c12, c13, c14, c15, c16⟩ := cells7 s1) | refine load_want (by rfl) 24 _ rfl r1 rfl Tryd.underlying24 rfl sizeCa ?_ | refine load_want (by rfl) 24 _ rfl s1 rfl Tryd.underlying24 rfl sizeCa ?_)
  go_ret
  exact ⟨by rw [hmm.out]; rfl, B1⟩

set_option maxHeartbeats 8000000 in
theorem rmay6_lo (h o : Nat) (g gr sv : Int) (t : ByteArray) (h1 : ¬ 0 ≤ gr) (w : World) :
    Calls Tryd.prog 12 #[.agg (Ca.mk 6 h o g gr sv t).arr] w fun e w' => e = .returned (.bool (mayC (Ca.mk 6 h o g gr sv t))) ∧ Below w.heap.size w w' := by
  have hm : mayC (Ca.mk 6 h o g gr sv t) = false := may_no (fun hM => by
    rcases hM with k | k | k | k | k | k | k
    all_goals (simp only at k; omega))
  replace hm : Hid (mayC (Ca.mk 6 h o g gr sv t) = false) := hm
  have b1 := blk_new w (Ca.mk 6 h o g gr sv t).arr 24
  have hB := below_box w (.cells (Ca.mk 6 h o g gr sv t).arr 24)
  have b2 := blk_new (w.alloc (.cells (Ca.mk 6 h o g gr sv t).arr 24)) (Ca.mk 6 0 0 0 0 0 noT).arr 24
  replace b1 := b1.alloc (.cells (Ca.mk 6 0 0 0 0 0 noT).arr 24)
  replace hB := hB.alloc hB.size (.cells (Ca.mk 6 0 0 0 0 0 noT).arr 24)
  rw [alloc_size] at b2
  have cz : (w.alloc (.cells (Ca.mk 6 h o g gr sv t).arr 24)).cell? ⟨w.heap.size, 0, none⟩ = some (.int .i64 6) := (blk_new w (Ca.mk 6 h o g gr sv t).arr 24).cell 0 _ rfl
  go_enter Tryd.func12, Tryd.ntmps12
  go_upto_region 2 with (first | refine alloc_zero zeroCa rfl rfl ?_ | refine store_new rfl 24 _ _ rfl (cells := (Ca.mk 6 0 0 0 0 0 noT).arr) rfl rfl sizeCa rfl (Ca.arr_one _) ?_)
  try simp only [Act.put, List.setIfInBounds_toArray, List.set_cons_zero, List.set_cons_succ, alloc_size]
  generalize (w.alloc (Obj.cells (Ca.mk 6 h o g gr sv t).arr 24)).alloc (Obj.cells (Ca.mk 6 0 0 0 0 0 noT).arr 24) = W at b1 b2 hB ⊢
  clear cz
  obtain ⟨z, hz⟩ : ∃ z, Hid (w.heap.size = z) := ⟨_, rfl⟩
  have hzB : w.heap.size ≤ z := by rw [hz.out]; exact Nat.le_refl _
  rw [hz.out] at b1 b2 ⊢
  obtain ⟨p0, p1, p2, p3, p4, p5, p6⟩ := cells7 b1
  go_wp2_with (first | (refine store_one rfl 22 _ _ rfl (off := 1) (.int .u64 (h : Int)) b2 rfl rfl rfl rfl size_u64 (show 1 + 1 ≤ 7 by decide) ?_; intro v0 q0 k0; have r0 : Blk (z + 1) (Ca.mk 6 h 0 0 0 0 noT).arr 24 v0 := q0; have s0 := b1.kp1 k0 (by omega); have B0 := hB.trans (k0.below1 (Nat.le_succ_of_le hzB) hB.size); obtain ⟨c00, c01, c02, c03, c04, c05, c06⟩ := cells7 s0) | (refine store_one rfl 3 _ _ rfl (off := 4) (.int .i64 gr) r0 rfl rfl rfl rfl size_i64 (show 4 + 1 ≤ 7 by decide) ?_; intro v1 q1 k1; have r1 : Blk (z + 1) (Ca.mk 6 h 0 0 gr 0 noT).arr 24 v1 := q1; have s1 := s0.kp1 k1 (by omega); have B1 := B0.trans (k1.below1 (Nat.le_succ_of_le hzB) B0.size); obtain ⟨c10, c11, c12, c13, c14, c15, c16⟩ := cells7 s1) | (refine store_one rfl 3 _ _ rfl (off := 5) (.int .i64 sv) r1 rfl rfl rfl rfl size_i64 (show 5 + 1 ≤ 7 by decide) ?_; intro v2 q2 k2; have r2 : Blk (z + 1) (Ca.mk 6 h 0 0 gr sv noT).arr 24 v2 := q2; have s2 := s1.kp1 k2 (by omega); have B2 := B1.trans (k2.below1 (Nat.le_succ_of_le hzB) B1.size); obtain ⟨c20, c21, c22, c23, c24, c25, c26⟩ := cells7 s2) | (refine store_one rfl 9 _ _ rfl (off := 6) (.string t) r2 rfl rfl rfl rfl size_str (show 6 + 1 ≤ 7 by decide) ?_; intro v3 q3 k3; have r3 : Blk (z + 1) (Ca.mk 6 h 0 0 gr sv t).arr 24 v3 := q3; have s3 := s2.kp1 k3 (by omega); have B3 := B2.trans (k3.below1 (Nat.le_succ_of_le hzB) B2.size); obtain ⟨c30, c31, c32, c33, c34, c35, c36⟩ := cells7 s3))
  go_ret
  exact ⟨by rw [hm.out]; rfl, B3⟩

set_option maxHeartbeats 8000000 in
theorem rmay6_hi (h o : Nat) (g gr sv : Int) (t : ByteArray) (h1 : 0 ≤ gr) (h2 : ¬ gr ≤ 7) (w : World) :
    Calls Tryd.prog 12 #[.agg (Ca.mk 6 h o g gr sv t).arr] w fun e w' => e = .returned (.bool (mayC (Ca.mk 6 h o g gr sv t))) ∧ Below w.heap.size w w' := by
  have hm : mayC (Ca.mk 6 h o g gr sv t) = false := may_no (fun hM => by
    rcases hM with k | k | k | k | k | k | k
    all_goals (simp only at k; omega))
  replace hm : Hid (mayC (Ca.mk 6 h o g gr sv t) = false) := hm
  have b1 := blk_new w (Ca.mk 6 h o g gr sv t).arr 24
  have hB := below_box w (.cells (Ca.mk 6 h o g gr sv t).arr 24)
  have b2 := blk_new (w.alloc (.cells (Ca.mk 6 h o g gr sv t).arr 24)) (Ca.mk 6 0 0 0 0 0 noT).arr 24
  replace b1 := b1.alloc (.cells (Ca.mk 6 0 0 0 0 0 noT).arr 24)
  replace hB := hB.alloc hB.size (.cells (Ca.mk 6 0 0 0 0 0 noT).arr 24)
  rw [alloc_size] at b2
  have cz : (w.alloc (.cells (Ca.mk 6 h o g gr sv t).arr 24)).cell? ⟨w.heap.size, 0, none⟩ = some (.int .i64 6) := (blk_new w (Ca.mk 6 h o g gr sv t).arr 24).cell 0 _ rfl
  go_enter Tryd.func12, Tryd.ntmps12
  go_upto_region 2 with (first | refine alloc_zero zeroCa rfl rfl ?_ | refine store_new rfl 24 _ _ rfl (cells := (Ca.mk 6 0 0 0 0 0 noT).arr) rfl rfl sizeCa rfl (Ca.arr_one _) ?_)
  try simp only [Act.put, List.setIfInBounds_toArray, List.set_cons_zero, List.set_cons_succ, alloc_size]
  generalize (w.alloc (Obj.cells (Ca.mk 6 h o g gr sv t).arr 24)).alloc (Obj.cells (Ca.mk 6 0 0 0 0 0 noT).arr 24) = W at b1 b2 hB ⊢
  clear cz
  obtain ⟨z, hz⟩ : ∃ z, Hid (w.heap.size = z) := ⟨_, rfl⟩
  have hzB : w.heap.size ≤ z := by rw [hz.out]; exact Nat.le_refl _
  rw [hz.out] at b1 b2 ⊢
  obtain ⟨p0, p1, p2, p3, p4, p5, p6⟩ := cells7 b1
  go_wp2_with (first | (refine store_one rfl 22 _ _ rfl (off := 1) (.int .u64 (h : Int)) b2 rfl rfl rfl rfl size_u64 (show 1 + 1 ≤ 7 by decide) ?_; intro v0 q0 k0; have r0 : Blk (z + 1) (Ca.mk 6 h 0 0 0 0 noT).arr 24 v0 := q0; have s0 := b1.kp1 k0 (by omega); have B0 := hB.trans (k0.below1 (Nat.le_succ_of_le hzB) hB.size); obtain ⟨c00, c01, c02, c03, c04, c05, c06⟩ := cells7 s0) | (refine store_one rfl 3 _ _ rfl (off := 4) (.int .i64 gr) r0 rfl rfl rfl rfl size_i64 (show 4 + 1 ≤ 7 by decide) ?_; intro v1 q1 k1; have r1 : Blk (z + 1) (Ca.mk 6 h 0 0 gr 0 noT).arr 24 v1 := q1; have s1 := s0.kp1 k1 (by omega); have B1 := B0.trans (k1.below1 (Nat.le_succ_of_le hzB) B0.size); obtain ⟨c10, c11, c12, c13, c14, c15, c16⟩ := cells7 s1) | (refine store_one rfl 3 _ _ rfl (off := 5) (.int .i64 sv) r1 rfl rfl rfl rfl size_i64 (show 5 + 1 ≤ 7 by decide) ?_; intro v2 q2 k2; have r2 : Blk (z + 1) (Ca.mk 6 h 0 0 gr sv noT).arr 24 v2 := q2; have s2 := s1.kp1 k2 (by omega); have B2 := B1.trans (k2.below1 (Nat.le_succ_of_le hzB) B1.size); obtain ⟨c20, c21, c22, c23, c24, c25, c26⟩ := cells7 s2) | (refine store_one rfl 9 _ _ rfl (off := 6) (.string t) r2 rfl rfl rfl rfl size_str (show 6 + 1 ≤ 7 by decide) ?_; intro v3 q3 k3; have r3 : Blk (z + 1) (Ca.mk 6 h 0 0 gr sv t).arr 24 v3 := q3; have s3 := s2.kp1 k3 (by omega); have B3 := B2.trans (k3.below1 (Nat.le_succ_of_le hzB) B2.size); obtain ⟨c30, c31, c32, c33, c34, c35, c36⟩ := cells7 s3))
  go_ret
  exact ⟨by rw [hm.out]; rfl, B3⟩

set_option maxHeartbeats 8000000 in
theorem rmay6_sl (h o : Nat) (g gr sv : Int) (t : ByteArray) (h1 : 0 ≤ gr) (h2 : gr ≤ 7) (h3 : ¬ 0 ≤ sv) (w : World) :
    Calls Tryd.prog 12 #[.agg (Ca.mk 6 h o g gr sv t).arr] w fun e w' => e = .returned (.bool (mayC (Ca.mk 6 h o g gr sv t))) ∧ Below w.heap.size w w' := by
  have hm : mayC (Ca.mk 6 h o g gr sv t) = false := may_no (fun hM => by
    rcases hM with k | k | k | k | k | k | k
    all_goals (simp only at k; omega))
  replace hm : Hid (mayC (Ca.mk 6 h o g gr sv t) = false) := hm
  have b1 := blk_new w (Ca.mk 6 h o g gr sv t).arr 24
  have hB := below_box w (.cells (Ca.mk 6 h o g gr sv t).arr 24)
  have b2 := blk_new (w.alloc (.cells (Ca.mk 6 h o g gr sv t).arr 24)) (Ca.mk 6 0 0 0 0 0 noT).arr 24
  replace b1 := b1.alloc (.cells (Ca.mk 6 0 0 0 0 0 noT).arr 24)
  replace hB := hB.alloc hB.size (.cells (Ca.mk 6 0 0 0 0 0 noT).arr 24)
  rw [alloc_size] at b2
  have cz : (w.alloc (.cells (Ca.mk 6 h o g gr sv t).arr 24)).cell? ⟨w.heap.size, 0, none⟩ = some (.int .i64 6) := (blk_new w (Ca.mk 6 h o g gr sv t).arr 24).cell 0 _ rfl
  go_enter Tryd.func12, Tryd.ntmps12
  go_upto_region 2 with (first | refine alloc_zero zeroCa rfl rfl ?_ | refine store_new rfl 24 _ _ rfl (cells := (Ca.mk 6 0 0 0 0 0 noT).arr) rfl rfl sizeCa rfl (Ca.arr_one _) ?_)
  try simp only [Act.put, List.setIfInBounds_toArray, List.set_cons_zero, List.set_cons_succ, alloc_size]
  generalize (w.alloc (Obj.cells (Ca.mk 6 h o g gr sv t).arr 24)).alloc (Obj.cells (Ca.mk 6 0 0 0 0 0 noT).arr 24) = W at b1 b2 hB ⊢
  clear cz
  obtain ⟨z, hz⟩ : ∃ z, Hid (w.heap.size = z) := ⟨_, rfl⟩
  have hzB : w.heap.size ≤ z := by rw [hz.out]; exact Nat.le_refl _
  rw [hz.out] at b1 b2 ⊢
  obtain ⟨p0, p1, p2, p3, p4, p5, p6⟩ := cells7 b1
  go_wp2_with (first | (refine store_one rfl 22 _ _ rfl (off := 1) (.int .u64 (h : Int)) b2 rfl rfl rfl rfl size_u64 (show 1 + 1 ≤ 7 by decide) ?_; intro v0 q0 k0; have r0 : Blk (z + 1) (Ca.mk 6 h 0 0 0 0 noT).arr 24 v0 := q0; have s0 := b1.kp1 k0 (by omega); have B0 := hB.trans (k0.below1 (Nat.le_succ_of_le hzB) hB.size); obtain ⟨c00, c01, c02, c03, c04, c05, c06⟩ := cells7 s0) | (refine store_one rfl 3 _ _ rfl (off := 4) (.int .i64 gr) r0 rfl rfl rfl rfl size_i64 (show 4 + 1 ≤ 7 by decide) ?_; intro v1 q1 k1; have r1 : Blk (z + 1) (Ca.mk 6 h 0 0 gr 0 noT).arr 24 v1 := q1; have s1 := s0.kp1 k1 (by omega); have B1 := B0.trans (k1.below1 (Nat.le_succ_of_le hzB) B0.size); obtain ⟨c10, c11, c12, c13, c14, c15, c16⟩ := cells7 s1) | (refine store_one rfl 3 _ _ rfl (off := 5) (.int .i64 sv) r1 rfl rfl rfl rfl size_i64 (show 5 + 1 ≤ 7 by decide) ?_; intro v2 q2 k2; have r2 : Blk (z + 1) (Ca.mk 6 h 0 0 gr sv noT).arr 24 v2 := q2; have s2 := s1.kp1 k2 (by omega); have B2 := B1.trans (k2.below1 (Nat.le_succ_of_le hzB) B1.size); obtain ⟨c20, c21, c22, c23, c24, c25, c26⟩ := cells7 s2) | (refine store_one rfl 9 _ _ rfl (off := 6) (.string t) r2 rfl rfl rfl rfl size_str (show 6 + 1 ≤ 7 by decide) ?_; intro v3 q3 k3; have r3 : Blk (z + 1) (Ca.mk 6 h 0 0 gr sv t).arr 24 v3 := q3; have s3 := s2.kp1 k3 (by omega); have B3 := B2.trans (k3.below1 (Nat.le_succ_of_le hzB) B2.size); obtain ⟨c30, c31, c32, c33, c34, c35, c36⟩ := cells7 s3))
  go_ret
  exact ⟨by rw [hm.out]; rfl, B3⟩

set_option maxHeartbeats 8000000 in
theorem rmay6_sh (h o : Nat) (g gr sv : Int) (t : ByteArray) (h1 : 0 ≤ gr) (h2 : gr ≤ 7) (h3 : 0 ≤ sv) (h4 : ¬ sv ≤ 3) (w : World) :
    Calls Tryd.prog 12 #[.agg (Ca.mk 6 h o g gr sv t).arr] w fun e w' => e = .returned (.bool (mayC (Ca.mk 6 h o g gr sv t))) ∧ Below w.heap.size w w' := by
  have hm : mayC (Ca.mk 6 h o g gr sv t) = false := may_no (fun hM => by
    rcases hM with k | k | k | k | k | k | k
    all_goals (simp only at k; omega))
  replace hm : Hid (mayC (Ca.mk 6 h o g gr sv t) = false) := hm
  have b1 := blk_new w (Ca.mk 6 h o g gr sv t).arr 24
  have hB := below_box w (.cells (Ca.mk 6 h o g gr sv t).arr 24)
  have b2 := blk_new (w.alloc (.cells (Ca.mk 6 h o g gr sv t).arr 24)) (Ca.mk 6 0 0 0 0 0 noT).arr 24
  replace b1 := b1.alloc (.cells (Ca.mk 6 0 0 0 0 0 noT).arr 24)
  replace hB := hB.alloc hB.size (.cells (Ca.mk 6 0 0 0 0 0 noT).arr 24)
  rw [alloc_size] at b2
  have cz : (w.alloc (.cells (Ca.mk 6 h o g gr sv t).arr 24)).cell? ⟨w.heap.size, 0, none⟩ = some (.int .i64 6) := (blk_new w (Ca.mk 6 h o g gr sv t).arr 24).cell 0 _ rfl
  go_enter Tryd.func12, Tryd.ntmps12
  go_upto_region 2 with (first | refine alloc_zero zeroCa rfl rfl ?_ | refine store_new rfl 24 _ _ rfl (cells := (Ca.mk 6 0 0 0 0 0 noT).arr) rfl rfl sizeCa rfl (Ca.arr_one _) ?_)
  try simp only [Act.put, List.setIfInBounds_toArray, List.set_cons_zero, List.set_cons_succ, alloc_size]
  generalize (w.alloc (Obj.cells (Ca.mk 6 h o g gr sv t).arr 24)).alloc (Obj.cells (Ca.mk 6 0 0 0 0 0 noT).arr 24) = W at b1 b2 hB ⊢
  clear cz
  obtain ⟨z, hz⟩ : ∃ z, Hid (w.heap.size = z) := ⟨_, rfl⟩
  have hzB : w.heap.size ≤ z := by rw [hz.out]; exact Nat.le_refl _
  rw [hz.out] at b1 b2 ⊢
  obtain ⟨p0, p1, p2, p3, p4, p5, p6⟩ := cells7 b1
  go_wp2_with (first | (refine store_one rfl 22 _ _ rfl (off := 1) (.int .u64 (h : Int)) b2 rfl rfl rfl rfl size_u64 (show 1 + 1 ≤ 7 by decide) ?_; intro v0 q0 k0; have r0 : Blk (z + 1) (Ca.mk 6 h 0 0 0 0 noT).arr 24 v0 := q0; have s0 := b1.kp1 k0 (by omega); have B0 := hB.trans (k0.below1 (Nat.le_succ_of_le hzB) hB.size); obtain ⟨c00, c01, c02, c03, c04, c05, c06⟩ := cells7 s0) | (refine store_one rfl 3 _ _ rfl (off := 4) (.int .i64 gr) r0 rfl rfl rfl rfl size_i64 (show 4 + 1 ≤ 7 by decide) ?_; intro v1 q1 k1; have r1 : Blk (z + 1) (Ca.mk 6 h 0 0 gr 0 noT).arr 24 v1 := q1; have s1 := s0.kp1 k1 (by omega); have B1 := B0.trans (k1.below1 (Nat.le_succ_of_le hzB) B0.size); obtain ⟨c10, c11, c12, c13, c14, c15, c16⟩ := cells7 s1) | (refine store_one rfl 3 _ _ rfl (off := 5) (.int .i64 sv) r1 rfl rfl rfl rfl size_i64 (show 5 + 1 ≤ 7 by decide) ?_; intro v2 q2 k2; have r2 : Blk (z + 1) (Ca.mk 6 h 0 0 gr sv noT).arr 24 v2 := q2; have s2 := s1.kp1 k2 (by omega); have B2 := B1.trans (k2.below1 (Nat.le_succ_of_le hzB) B1.size); obtain ⟨c20, c21, c22, c23, c24, c25, c26⟩ := cells7 s2) | (refine store_one rfl 9 _ _ rfl (off := 6) (.string t) r2 rfl rfl rfl rfl size_str (show 6 + 1 ≤ 7 by decide) ?_; intro v3 q3 k3; have r3 : Blk (z + 1) (Ca.mk 6 h 0 0 gr sv t).arr 24 v3 := q3; have s3 := s2.kp1 k3 (by omega); have B3 := B2.trans (k3.below1 (Nat.le_succ_of_le hzB) B2.size); obtain ⟨c30, c31, c32, c33, c34, c35, c36⟩ := cells7 s3))
  go_ret
  exact ⟨by rw [hm.out]; rfl, B3⟩

set_option maxHeartbeats 8000000 in
theorem rmay6_t (h o : Nat) (g gr sv : Int) (t : ByteArray) (h1 : 0 ≤ gr) (h2 : gr ≤ 7) (h3 : 0 ≤ sv) (h4 : sv ≤ 3) (h5 : ¬ t.size ≤ 16) (w : World) :
    Calls Tryd.prog 12 #[.agg (Ca.mk 6 h o g gr sv t).arr] w fun e w' => e = .returned (.bool (mayC (Ca.mk 6 h o g gr sv t))) ∧ Below w.heap.size w w' := by
  have hm : mayC (Ca.mk 6 h o g gr sv t) = false := may_no (fun hM => by
    rcases hM with k | k | k | k | k | k | k
    all_goals (simp only at k; omega))
  replace hm : Hid (mayC (Ca.mk 6 h o g gr sv t) = false) := hm
  have e5 : ¬ (t.size : Int) ≤ 16 := by omega
  clear h5
  have b1 := blk_new w (Ca.mk 6 h o g gr sv t).arr 24
  have hB := below_box w (.cells (Ca.mk 6 h o g gr sv t).arr 24)
  have b2 := blk_new (w.alloc (.cells (Ca.mk 6 h o g gr sv t).arr 24)) (Ca.mk 6 0 0 0 0 0 noT).arr 24
  replace b1 := b1.alloc (.cells (Ca.mk 6 0 0 0 0 0 noT).arr 24)
  replace hB := hB.alloc hB.size (.cells (Ca.mk 6 0 0 0 0 0 noT).arr 24)
  rw [alloc_size] at b2
  have cz : (w.alloc (.cells (Ca.mk 6 h o g gr sv t).arr 24)).cell? ⟨w.heap.size, 0, none⟩ = some (.int .i64 6) := (blk_new w (Ca.mk 6 h o g gr sv t).arr 24).cell 0 _ rfl
  go_enter Tryd.func12, Tryd.ntmps12
  go_upto_region 2 with (first | refine alloc_zero zeroCa rfl rfl ?_ | refine store_new rfl 24 _ _ rfl (cells := (Ca.mk 6 0 0 0 0 0 noT).arr) rfl rfl sizeCa rfl (Ca.arr_one _) ?_)
  try simp only [Act.put, List.setIfInBounds_toArray, List.set_cons_zero, List.set_cons_succ, alloc_size]
  generalize (w.alloc (Obj.cells (Ca.mk 6 h o g gr sv t).arr 24)).alloc (Obj.cells (Ca.mk 6 0 0 0 0 0 noT).arr 24) = W at b1 b2 hB ⊢
  clear cz
  obtain ⟨z, hz⟩ : ∃ z, Hid (w.heap.size = z) := ⟨_, rfl⟩
  have hzB : w.heap.size ≤ z := by rw [hz.out]; exact Nat.le_refl _
  rw [hz.out] at b1 b2 ⊢
  obtain ⟨p0, p1, p2, p3, p4, p5, p6⟩ := cells7 b1
  go_wp2_with (first | (refine store_one rfl 22 _ _ rfl (off := 1) (.int .u64 (h : Int)) b2 rfl rfl rfl rfl size_u64 (show 1 + 1 ≤ 7 by decide) ?_; intro v0 q0 k0; have r0 : Blk (z + 1) (Ca.mk 6 h 0 0 0 0 noT).arr 24 v0 := q0; have s0 := b1.kp1 k0 (by omega); have B0 := hB.trans (k0.below1 (Nat.le_succ_of_le hzB) hB.size); obtain ⟨c00, c01, c02, c03, c04, c05, c06⟩ := cells7 s0) | (refine store_one rfl 3 _ _ rfl (off := 4) (.int .i64 gr) r0 rfl rfl rfl rfl size_i64 (show 4 + 1 ≤ 7 by decide) ?_; intro v1 q1 k1; have r1 : Blk (z + 1) (Ca.mk 6 h 0 0 gr 0 noT).arr 24 v1 := q1; have s1 := s0.kp1 k1 (by omega); have B1 := B0.trans (k1.below1 (Nat.le_succ_of_le hzB) B0.size); obtain ⟨c10, c11, c12, c13, c14, c15, c16⟩ := cells7 s1) | (refine store_one rfl 3 _ _ rfl (off := 5) (.int .i64 sv) r1 rfl rfl rfl rfl size_i64 (show 5 + 1 ≤ 7 by decide) ?_; intro v2 q2 k2; have r2 : Blk (z + 1) (Ca.mk 6 h 0 0 gr sv noT).arr 24 v2 := q2; have s2 := s1.kp1 k2 (by omega); have B2 := B1.trans (k2.below1 (Nat.le_succ_of_le hzB) B1.size); obtain ⟨c20, c21, c22, c23, c24, c25, c26⟩ := cells7 s2) | (refine store_one rfl 9 _ _ rfl (off := 6) (.string t) r2 rfl rfl rfl rfl size_str (show 6 + 1 ≤ 7 by decide) ?_; intro v3 q3 k3; have r3 : Blk (z + 1) (Ca.mk 6 h 0 0 gr sv t).arr 24 v3 := q3; have s3 := s2.kp1 k3 (by omega); have B3 := B2.trans (k3.below1 (Nat.le_succ_of_le hzB) B2.size); obtain ⟨c30, c31, c32, c33, c34, c35, c36⟩ := cells7 s3))
  go_ret
  exact ⟨by rw [hm.out]; rfl, B3⟩

set_option maxHeartbeats 8000000 in
theorem rmay6_ok (h o : Nat) (g gr sv : Int) (t : ByteArray) (h1 : 0 ≤ gr) (h2 : gr ≤ 7) (h3 : 0 ≤ sv) (h4 : sv ≤ 3) (h5 : t.size ≤ 16) (w : World) :
    Calls Tryd.prog 12 #[.agg (Ca.mk 6 h o g gr sv t).arr] w fun e w' => e = .returned (.bool (mayC (Ca.mk 6 h o g gr sv t))) ∧ Below w.heap.size w w' := by
  have hm : Ca.same (Ca.mk 6 h 0 0 gr sv t) (Ca.mk 6 h o g gr sv t) = mayC (Ca.mk 6 h o g gr sv t) := may_same (fun e => by rw [← e]; exact .inr (.inr (.inr (.inr (.inr (.inr ⟨rfl, h1, h2, h3, h4, h5, rfl⟩)))))) (fun hM => by
    rcases hM with k | k | k | k | k | k | k
    · exact absurd k.1 (by show ¬ (6 : Int) = 0; decide)
    · exact absurd k.1 (by show ¬ (6 : Int) = 1; decide)
    · exact absurd k.1 (by show ¬ (6 : Int) = 2; decide)
    · exact absurd k.1 (by show ¬ (6 : Int) = 3; decide)
    · exact absurd k.1 (by show ¬ (6 : Int) = 4; decide)
    · exact absurd k.1 (by show ¬ (6 : Int) = 5; decide)
    · exact k.2.2.2.2.2.2
  )
  obtain ⟨m, hmm⟩ : ∃ m, Hid (mayC (Ca.mk 6 h o g gr sv t) = m) := ⟨_, rfl⟩
  rw [hmm.out] at hm
  have nq := eqlCa (Ca.mk 6 h 0 0 gr sv t) (Ca.mk 6 h o g gr sv t) m hm
  clear hm
  have e5 : (t.size : Int) ≤ 16 := by omega
  clear h5
  have b1 := blk_new w (Ca.mk 6 h o g gr sv t).arr 24
  have hB := below_box w (.cells (Ca.mk 6 h o g gr sv t).arr 24)
  have b2 := blk_new (w.alloc (.cells (Ca.mk 6 h o g gr sv t).arr 24)) (Ca.mk 6 0 0 0 0 0 noT).arr 24
  replace b1 := b1.alloc (.cells (Ca.mk 6 0 0 0 0 0 noT).arr 24)
  replace hB := hB.alloc hB.size (.cells (Ca.mk 6 0 0 0 0 0 noT).arr 24)
  rw [alloc_size] at b2
  have cz : (w.alloc (.cells (Ca.mk 6 h o g gr sv t).arr 24)).cell? ⟨w.heap.size, 0, none⟩ = some (.int .i64 6) := (blk_new w (Ca.mk 6 h o g gr sv t).arr 24).cell 0 _ rfl
  go_enter Tryd.func12, Tryd.ntmps12
  go_upto_region 2 with (first | refine alloc_zero zeroCa rfl rfl ?_ | refine store_new rfl 24 _ _ rfl (cells := (Ca.mk 6 0 0 0 0 0 noT).arr) rfl rfl sizeCa rfl (Ca.arr_one _) ?_)
  try simp only [Act.put, List.setIfInBounds_toArray, List.set_cons_zero, List.set_cons_succ, alloc_size]
  generalize (w.alloc (Obj.cells (Ca.mk 6 h o g gr sv t).arr 24)).alloc (Obj.cells (Ca.mk 6 0 0 0 0 0 noT).arr 24) = W at b1 b2 hB ⊢
  clear cz
  obtain ⟨z, hz⟩ : ∃ z, Hid (w.heap.size = z) := ⟨_, rfl⟩
  have hzB : w.heap.size ≤ z := by rw [hz.out]; exact Nat.le_refl _
  rw [hz.out] at b1 b2 ⊢
  obtain ⟨p0, p1, p2, p3, p4, p5, p6⟩ := cells7 b1
  go_wp2_with (first | (refine store_one rfl 22 _ _ rfl (off := 1) (.int .u64 (h : Int)) b2 rfl rfl rfl rfl size_u64 (show 1 + 1 ≤ 7 by decide) ?_; intro v0 q0 k0; have r0 : Blk (z + 1) (Ca.mk 6 h 0 0 0 0 noT).arr 24 v0 := q0; have s0 := b1.kp1 k0 (by omega); have B0 := hB.trans (k0.below1 (Nat.le_succ_of_le hzB) hB.size); obtain ⟨c00, c01, c02, c03, c04, c05, c06⟩ := cells7 s0) | (refine store_one rfl 3 _ _ rfl (off := 4) (.int .i64 gr) r0 rfl rfl rfl rfl size_i64 (show 4 + 1 ≤ 7 by decide) ?_; intro v1 q1 k1; have r1 : Blk (z + 1) (Ca.mk 6 h 0 0 gr 0 noT).arr 24 v1 := q1; have s1 := s0.kp1 k1 (by omega); have B1 := B0.trans (k1.below1 (Nat.le_succ_of_le hzB) B0.size); obtain ⟨c10, c11, c12, c13, c14, c15, c16⟩ := cells7 s1) | (refine store_one rfl 3 _ _ rfl (off := 5) (.int .i64 sv) r1 rfl rfl rfl rfl size_i64 (show 5 + 1 ≤ 7 by decide) ?_; intro v2 q2 k2; have r2 : Blk (z + 1) (Ca.mk 6 h 0 0 gr sv noT).arr 24 v2 := q2; have s2 := s1.kp1 k2 (by omega); have B2 := B1.trans (k2.below1 (Nat.le_succ_of_le hzB) B1.size); obtain ⟨c20, c21, c22, c23, c24, c25, c26⟩ := cells7 s2) | (refine store_one rfl 9 _ _ rfl (off := 6) (.string t) r2 rfl rfl rfl rfl size_str (show 6 + 1 ≤ 7 by decide) ?_; intro v3 q3 k3; have r3 : Blk (z + 1) (Ca.mk 6 h 0 0 gr sv t).arr 24 v3 := q3; have s3 := s2.kp1 k3 (by omega); have B3 := B2.trans (k3.below1 (Nat.le_succ_of_le hzB) B2.size); obtain ⟨c30, c31, c32, c33, c34, c35, c36⟩ := cells7 s3) | refine load_want (by rfl) 24 _ rfl r3 rfl Tryd.underlying24 rfl sizeCa ?_ | refine load_want (by rfl) 24 _ rfl s3 rfl Tryd.underlying24 rfl sizeCa ?_)
  go_ret
  exact ⟨by rw [hmm.out]; rfl, B3⟩

theorem rmay_ok (c : Ca) (w : World) : Calls Tryd.prog 12 #[.agg c.arr] w fun e w' => e = .returned (.bool (mayC c)) ∧ Below w.heap.size w w' := by
  obtain ⟨d, h, o, g, gr, sv, t⟩ := c
  by_cases hl : d < 0
  · exact rmayl d h o g gr sv t hl w
  by_cases hh : 6 < d
  · exact rmayh d h o g gr sv t hh w
  have : d = 0 ∨ d = 1 ∨ d = 2 ∨ d = 3 ∨ d = 4 ∨ d = 5 ∨ d = 6 := by omega
  rcases this with rfl | rfl | rfl | rfl | rfl | rfl | rfl
  · exact rmay0 h o g gr sv t w
  · exact rmay1 h o g gr sv t w
  · by_cases h1 : 1 ≤ g
    · by_cases h2 : g ≤ 7
      · exact rmay2_ok h o g gr sv t h1 h2 w
      · exact rmay2_hi h o g gr sv t h1 h2 w
    · exact rmay2_lo h o g gr sv t h1 w
  · exact rmay3 h o g gr sv t w
  · by_cases h1 : 0 ≤ gr
    · by_cases h2 : gr ≤ 7
      · exact rmay4_ok h o g gr sv t h1 h2 w
      · exact rmay4_hi h o g gr sv t h1 h2 w
    · exact rmay4_lo h o g gr sv t h1 w
  · by_cases h1 : 0 ≤ gr
    · by_cases h2 : gr ≤ 7
      · exact rmay5_ok h o g gr sv t h1 h2 w
      · exact rmay5_hi h o g gr sv t h1 h2 w
    · exact rmay5_lo h o g gr sv t h1 w
  · by_cases h1 : 0 ≤ gr
    · by_cases h2 : gr ≤ 7
      · by_cases h3 : 0 ≤ sv
        · by_cases h4 : sv ≤ 3
          · by_cases h5 : t.size ≤ 16
            · exact rmay6_ok h o g gr sv t h1 h2 h3 h4 h5 w
            · exact rmay6_t h o g gr sv t h1 h2 h3 h4 h5 w
          · exact rmay6_sh h o g gr sv t h1 h2 h3 h4 w
        · exact rmay6_sl h o g gr sv t h1 h2 h3 w
      · exact rmay6_hi h o g gr sv t h1 h2 w
    · exact rmay6_lo h o g gr sv t h1 w

end Go.Proofs.YtiepdfngjfhadaaDoor
