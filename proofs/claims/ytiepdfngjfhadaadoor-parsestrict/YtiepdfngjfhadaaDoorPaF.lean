/-
  What the program's read does: the call that a request says, or a panic with a refusal.
  Conditions: the library's variables and the program's tables hold what the program's text lays; a request has at most 140737488355328 bytes.
-/
import Derived.Test.YtiepdfngjfhadaaDoorPaE
namespace Go.Proofs.YtiepdfngjfhadaaDoor
set_option maxRecDepth 10000
open Go.RowKit Go.Sort
set_option linter.unusedVariables false
set_option linter.unusedSimpArgs false

/- The words that are left. -/
def RL (k : Nat) (r : List UInt8) (m : Bool) : List (List UInt8) := if m = true then wordsL k r else []
theorem words_RL (s : List UInt8) : wordsL 4 s = (cutL s).1 :: RL 3 (cutL s).2.1 (cutL s).2.2 := rfl
theorem RL_cases (k : Nat) (r : List UInt8) (m : Bool) : (m = false ∧ RL (k + 1) r m = []) ∨ (m = true ∧ RL (k + 1) r m = (cutL r).1 :: RL k (cutL r).2.1 (cutL r).2.2) := by
  cases m
  · exact .inl ⟨rfl, rfl⟩
  · exact .inr ⟨rfl, rfl⟩
theorem RL_true (k : Nat) (r : List UInt8) : ∃ a R, RL k r true = a :: R := wordsL_ne k r
theorem cutL_nil {r : List UInt8} {m : Bool} (hm : m = false → r = []) (ha : (cutL r).1 ≠ []) : m = true := by
  cases m
  · exact absurd (by rw [hm rfl]; rfl) ha
  · rfl
theorem RL_step {k : Nat} {r : List UInt8} {m : Bool} (hm : m = false → r = []) (ha : (cutL r).1 ≠ []) : RL (k + 1) r m = (cutL r).1 :: RL k (cutL r).2.1 (cutL r).2.2 := by
  rw [cutL_nil hm ha]
  rfl
theorem servW_ne (k : Nat) : servW k ≠ [] := by unfold servW; split <;> decide
/- What reading does. -/
def ReadQ (s : ByteArray) (w : World) (e : Ending) (w' : World) : Prop := ((∃ c : Ca, e = .returned (.agg c.arr) ∧ IsCall (bL s) (some c)) ∨ (e = refE ∧ IsCall (bL s) none)) ∧ Below w.heap.size w w'
theorem size_i64 : (Tryd.prog.info? 3).map (·.size) = some 1 := by kernel_rfl
theorem size_u64 : (Tryd.prog.info? 22).map (·.size) = some 1 := by kernel_rfl
theorem zero_words : (Tryd.prog.info? 51).map (fun i => (i.zero, i.size)) = some (some (.agg #[.string ⟨#[]⟩, .bool false]), 2) := by kernel_rfl
theorem form_says (d : Nat) (h : d ≤ 6) {w : World} (hF : Fs w) : w.cell? ⟨0, d * 2 + 1, none⟩ = some (.int .i64 (saysN d)) := by
  have := hF.forms (d * 2 + 1) (.int .i64 (saysN d)) (by
    have : d = 0 ∨ d = 1 ∨ d = 2 ∨ d = 3 ∨ d = 4 ∨ d = 5 ∨ d = 6 := by omega
    rcases this with rfl | rfl | rfl | rfl | rfl | rfl | rfl <;> rfl)
  rwa [Nat.zero_add] at this

set_option maxHeartbeats 8000000 in
theorem read0 (s : ByteArray) (hs : s.size ≤ 140737488355328) (w : World) (hE : Te w) (hk : kindW 0 = (cutL (bL s)).1) : Calls Tryd.prog 18 #[.string s] w (ReadQ s w) := by
  obtain ⟨r0, hr0⟩ : ∃ r0, Hid ((cutL (bL s)).2.1 = r0) := ⟨_, rfl⟩
  obtain ⟨m0, hm0⟩ : ∃ m0, Hid ((cutL (bL s)).2.2 = m0) := ⟨_, rfl⟩
  have hls : (bL s).length ≤ 140737488355328 := by rw [bL_len]; exact hs
  have hl0 : r0.length ≤ 140737488355328 := by have := (cutL_len (bL s)).2; rw [hr0.out] at this; omega
  have hz0 : Hid (m0 = false → r0 = []) := by have := (cutL_is (bL s)).2.2; rw [hm0.out, hr0.out] at this; exact this
  have bR := blk_new w Ca.zero.arr 24
  have hB := below_box w (.cells Ca.zero.arr 24)
  have bW := blk_new (w.alloc (.cells Ca.zero.arr 24)) #[.string s, .bool false] 51
  replace bR := bR.alloc (.cells #[.string s, .bool false] 51)
  replace hB := hB.alloc hB.size (.cells #[.string s, .bool false] 51)
  rw [alloc_size] at bW
  have h8w := hE.big
  replace hE := hE.next hB
  have h8 := hE.big
  go_enter Tryd.func18, Tryd.ntmps18
  go_upto_region 2 with (first | refine alloc_zero zeroCa rfl rfl ?_ | refine alloc_zero zero_words rfl rfl ?_ | refine store_new rfl 51 _ _ rfl (cells := #[.string s, .bool false]) rfl rfl size_words rfl (by rfl) ?_)
  try simp only [Act.put, List.setIfInBounds_toArray, List.set_cons_zero, List.set_cons_succ, alloc_size]
  generalize (w.alloc (Obj.cells Ca.zero.arr 24)).alloc (Obj.cells #[Value.string s, Value.bool false] 51) = W at bR bW hB hE h8 ⊢
  obtain ⟨z, hz⟩ : ∃ z, Hid (w.heap.size = z) := ⟨_, rfl⟩
  have hzB : w.heap.size ≤ z := by rw [hz.out]; exact Nat.le_refl _
  have h8z : 8 ≤ z := by rw [← hz.out]; exact h8w
  rw [hz.out] at bR bW ⊢
  clear h8 h8w
  have pn := next_ok (z + 1) (bL s) false hls W hE (by omega) (by rw [← strB_bL s] at bW; exact bW)
  rw [hr0.out, hm0.out] at pn
  go_wp2_with fail
  refine pn.mono ?_
  rintro e w1 ⟨rfl, hW, hE, hk1⟩
  replace bR := bR.kp1 hk1 (by omega)
  replace hB := hB.trans (hk1.below1 (by omega) hB.size)
  clear pn hk1 bW
  go_wp2_with fail
  refine (kindOf_ok _ _ hE.fs).mono ?_
  rintro e w2 ⟨hko, hb⟩
  replace hW := Wd.kp hW (Kp.of_below (S := []) hb) (by simp)
  replace bR := bR.below hb
  replace hB := hB.trans (hb.mono hB.size)
  replace hE := hE.next hb
  rw [bL_strB] at hko
  clear hb
  obtain rfl : e = .returned (.int .i64 0) := by
    rcases hko with ⟨d, hd, hkd, rfl⟩ | ⟨rfl, hno⟩
    · rw [kindW_inj hd (by omega) (hkd.trans hk.symm)]
      rfl
    · exact absurd hk (hno 0 (by omega))
  clear hko
  have hL : Hid (wordsL 4 (bL s) = kindW 0 :: RL 3 r0 m0) := by show _ = _; rw [words_RL, ← hk, hr0.out, hm0.out]
  have hsz := hB.size
  have hzy : z + 1 < w2.heap.size := Blk.lt hW
  have bC := blk_new w2 (Ca.mk 0 0 0 0 0 0 noT).arr 24
  have hb := below_box w2 (.cells (Ca.mk 0 0 0 0 0 0 noT).arr 24)
  replace hW := Wd.kp hW (Kp.of_below (S := []) hb) (by simp)
  replace bR := bR.below hb
  replace hB := hB.trans (hb.mono hB.size)
  replace hE := hE.next hb
  clear hb
  go_upto_region 3 with (first | refine alloc_zero zeroCa rfl rfl ?_ | refine store_new rfl 24 _ _ rfl (cells := (Ca.mk 0 0 0 0 0 0 noT).arr) rfl rfl sizeCa rfl (Ca.arr_one _) ?_)
  try simp only [Act.put, List.setIfInBounds_toArray, List.set_cons_zero, List.set_cons_succ]
  generalize w2.alloc (Obj.cells (Ca.mk 0 0 0 0 0 0 noT).arr 24) = W2 at bC bR hW hB hE ⊢
  obtain ⟨y, hy⟩ : ∃ y, Hid (w2.heap.size = y) := ⟨_, rfl⟩
  rw [hy.out] at bC hzy ⊢
  have hc0 : W2.cell? ⟨y, 0, none⟩ = some (.int .i64 0) := bC.cell 0 _ rfl
  have hsay : W2.cell? ⟨0, 1, none⟩ = some (.int .i64 0) := form_says 0 (by decide) hE.fs
  clear hsz
  go_wp2_with fail
  have pe := end_ok (z + 1) r0 m0 _ hW
  obtain ⟨mm, hmm⟩ : ∃ mm, Hid (m0 = mm) := ⟨_, rfl⟩
  rw [hmm.out] at pe
  cases mm with
  | true =>
    rw [if_pos rfl] at pe
    refine pe.mono ?_
    rintro e we ⟨rfl, rfl⟩
    exact ⟨rfl, .inr ⟨rfl, IsCall_of (by
      rw [hL.out, hmm.out]
      obtain ⟨a, R, e⟩ := RL_true 3 r0
      rw [e]
      exact w_len (by decide) (by simp [manyC, RL]))⟩, hB⟩
  | false =>
    rw [if_neg (by decide)] at pe
    refine pe.mono ?_
    rintro e we ⟨rfl, rfl⟩
    clear pe
    replace hL : Hid (wordsL 4 (bL s) = [kindW 0]) := by show _ = _; rw [hL.out, hmm.out]; rfl
    go_wp2_with (first | refine load_blk rfl 24 _ rfl bC rfl Tryd.underlying24 rfl sizeCa ?_ | (refine store_part rfl 24 _ _ rfl (off := 0) (cells := (Ca.mk (0) (0) (0) (0) (0) (0) (noT)).arr) bR rfl rfl sizeCa (show 0 + 7 ≤ 7 by decide) (Ca.arr_one _) ?_; intro w9 b9 k9))
    rw [show putAt Ca.zero.arr 0 (Ca.mk (0) (0) (0) (0) (0) (0) (noT)).arr.toList = (Ca.mk (0) (0) (0) (0) (0) (0) (noT)).arr from putAt_all _ _ rfl] at b9
    exact bodyPost_ret (w := w9) (v := .agg (Ca.mk (0) (0) (0) (0) (0) (0) (noT)).arr) (ret_one rfl rfl b9 Tryd.underlying24 rfl sizeCa) rfl ⟨.inl ⟨_, rfl, IsCall_of (by rw [hL.out]; exact w_ok0)⟩, hB.trans (k9.below1 (by omega) hB.size)⟩

set_option maxHeartbeats 8000000 in
theorem read1 (s : ByteArray) (hs : s.size ≤ 140737488355328) (w : World) (hE : Te w) (hk : kindW 1 = (cutL (bL s)).1) : Calls Tryd.prog 18 #[.string s] w (ReadQ s w) := by
  obtain ⟨r0, hr0⟩ : ∃ r0, Hid ((cutL (bL s)).2.1 = r0) := ⟨_, rfl⟩
  obtain ⟨m0, hm0⟩ : ∃ m0, Hid ((cutL (bL s)).2.2 = m0) := ⟨_, rfl⟩
  have hls : (bL s).length ≤ 140737488355328 := by rw [bL_len]; exact hs
  have hl0 : r0.length ≤ 140737488355328 := by have := (cutL_len (bL s)).2; rw [hr0.out] at this; omega
  have hz0 : Hid (m0 = false → r0 = []) := by have := (cutL_is (bL s)).2.2; rw [hm0.out, hr0.out] at this; exact this
  have bR := blk_new w Ca.zero.arr 24
  have hB := below_box w (.cells Ca.zero.arr 24)
  have bW := blk_new (w.alloc (.cells Ca.zero.arr 24)) #[.string s, .bool false] 51
  replace bR := bR.alloc (.cells #[.string s, .bool false] 51)
  replace hB := hB.alloc hB.size (.cells #[.string s, .bool false] 51)
  rw [alloc_size] at bW
  have h8w := hE.big
  replace hE := hE.next hB
  have h8 := hE.big
  go_enter Tryd.func18, Tryd.ntmps18
  go_upto_region 2 with (first | refine alloc_zero zeroCa rfl rfl ?_ | refine alloc_zero zero_words rfl rfl ?_ | refine store_new rfl 51 _ _ rfl (cells := #[.string s, .bool false]) rfl rfl size_words rfl (by rfl) ?_)
  try simp only [Act.put, List.setIfInBounds_toArray, List.set_cons_zero, List.set_cons_succ, alloc_size]
  generalize (w.alloc (Obj.cells Ca.zero.arr 24)).alloc (Obj.cells #[Value.string s, Value.bool false] 51) = W at bR bW hB hE h8 ⊢
  obtain ⟨z, hz⟩ : ∃ z, Hid (w.heap.size = z) := ⟨_, rfl⟩
  have hzB : w.heap.size ≤ z := by rw [hz.out]; exact Nat.le_refl _
  have h8z : 8 ≤ z := by rw [← hz.out]; exact h8w
  rw [hz.out] at bR bW ⊢
  clear h8 h8w
  have pn := next_ok (z + 1) (bL s) false hls W hE (by omega) (by rw [← strB_bL s] at bW; exact bW)
  rw [hr0.out, hm0.out] at pn
  go_wp2_with fail
  refine pn.mono ?_
  rintro e w1 ⟨rfl, hW, hE, hk1⟩
  replace bR := bR.kp1 hk1 (by omega)
  replace hB := hB.trans (hk1.below1 (by omega) hB.size)
  clear pn hk1 bW
  go_wp2_with fail
  refine (kindOf_ok _ _ hE.fs).mono ?_
  rintro e w2 ⟨hko, hb⟩
  replace hW := Wd.kp hW (Kp.of_below (S := []) hb) (by simp)
  replace bR := bR.below hb
  replace hB := hB.trans (hb.mono hB.size)
  replace hE := hE.next hb
  rw [bL_strB] at hko
  clear hb
  obtain rfl : e = .returned (.int .i64 1) := by
    rcases hko with ⟨d, hd, hkd, rfl⟩ | ⟨rfl, hno⟩
    · rw [kindW_inj hd (by omega) (hkd.trans hk.symm)]
      rfl
    · exact absurd hk (hno 1 (by omega))
  clear hko
  have hL : Hid (wordsL 4 (bL s) = kindW 1 :: RL 3 r0 m0) := by show _ = _; rw [words_RL, ← hk, hr0.out, hm0.out]
  have hsz := hB.size
  have hzy : z + 1 < w2.heap.size := Blk.lt hW
  have bC := blk_new w2 (Ca.mk 1 0 0 0 0 0 noT).arr 24
  have hb := below_box w2 (.cells (Ca.mk 1 0 0 0 0 0 noT).arr 24)
  replace hW := Wd.kp hW (Kp.of_below (S := []) hb) (by simp)
  replace bR := bR.below hb
  replace hB := hB.trans (hb.mono hB.size)
  replace hE := hE.next hb
  clear hb
  go_upto_region 3 with (first | refine alloc_zero zeroCa rfl rfl ?_ | refine store_new rfl 24 _ _ rfl (cells := (Ca.mk 1 0 0 0 0 0 noT).arr) rfl rfl sizeCa rfl (Ca.arr_one _) ?_)
  try simp only [Act.put, List.setIfInBounds_toArray, List.set_cons_zero, List.set_cons_succ]
  generalize w2.alloc (Obj.cells (Ca.mk 1 0 0 0 0 0 noT).arr 24) = W2 at bC bR hW hB hE ⊢
  obtain ⟨y, hy⟩ : ∃ y, Hid (w2.heap.size = y) := ⟨_, rfl⟩
  rw [hy.out] at bC hzy ⊢
  have hc0 : W2.cell? ⟨y, 0, none⟩ = some (.int .i64 1) := bC.cell 0 _ rfl
  have hsay : W2.cell? ⟨0, 3, none⟩ = some (.int .i64 1) := form_says 1 (by decide) hE.fs
  clear hsz
  obtain ⟨a1, ha1⟩ : ∃ a, Hid ((cutL r0).1 = a) := ⟨_, rfl⟩
  obtain ⟨r1, hr1⟩ : ∃ r, Hid ((cutL r0).2.1 = r) := ⟨_, rfl⟩
  obtain ⟨m1, hm1⟩ : ∃ m, Hid ((cutL r0).2.2 = m) := ⟨_, rfl⟩
  have hl1 : r1.length ≤ 140737488355328 := by have := (cutL_len r0).2; rw [hr1.out] at this; omega
  have hz1 : Hid (m1 = false → r1 = []) := by have := (cutL_is r0).2.2; rw [hm1.out, hr1.out] at this; exact this
  have pn := number_ok (z + 1) r0 m0 hl0 _ hE (by omega) hW
  rw [ha1.out, hr1.out, hm1.out] at pn
  go_wp2_with fail
  refine pn.mono ?_
  clear pn
  rintro e w3 ⟨hn, hW, hE, hk⟩
  replace bR := bR.kp1 hk (by omega)
  replace bC := bC.kp1 hk (by omega)
  replace hB := hB.trans (hk.below1 (by omega) hB.size)
  clear hk
  rcases hn with ⟨n0, hn0, rfl⟩ | ⟨rfl, hn⟩
  case inr => exact ⟨rfl, .inr ⟨rfl, IsCall_of (by
    rw [hL.out]
    rcases RL_cases 2 r0 m0 with ⟨_, e⟩ | ⟨_, e⟩
    · rw [e]
      exact w_len (by decide) (by simp [manyC, RL])
    · rw [e, ha1.out]
      exact w_num (by decide) (by decide) hn)⟩, hB⟩
  replace hn0 : Hid (NumO a1 (some n0)) := hn0
  have hL : Hid (wordsL 4 (bL s) = kindW 1 :: a1 :: RL 2 r1 m1) := by show _ = _; rw [hL.out, RL_step hz0.out (by rw [ha1.out]; exact (fun e => digs_ne n0 (hn0.out.2.trans e))), ha1.out, hr1.out, hm1.out]
  go_wp2_with (refine store_one rfl 22 _ _ rfl (off := 1) (.int .u64 (n0 : Int)) bC rfl rfl rfl rfl size_u64 (show 1 + 1 ≤ 7 by decide) ?_; intro v0 bC0 kC0)
  replace bR := bR.kp1 kC0 (by omega)
  replace hW := Wd.kp hW kC0 (by simp; omega)
  replace hB := hB.trans (kC0.below1 (by omega) hB.size)
  replace hE := hE.kp kC0 (by omega)
  replace bC : Blk y (Ca.mk (1) (n0) (0) (0) (0) (0) (noT)).arr 24 v0 := bC0
  clear bC0 kC0
  have pe := end_ok (z + 1) r1 m1 _ hW
  obtain ⟨mm, hmm⟩ : ∃ mm, Hid (m1 = mm) := ⟨_, rfl⟩
  rw [hmm.out] at pe
  cases mm with
  | true =>
    rw [if_pos rfl] at pe
    refine pe.mono ?_
    rintro e we ⟨rfl, rfl⟩
    exact ⟨rfl, .inr ⟨rfl, IsCall_of (by
      rw [hL.out, hmm.out]
      obtain ⟨a, R, e⟩ := RL_true 2 r1
      rw [e]
      exact w_len (by decide) (by simp [manyC, RL]))⟩, hB⟩
  | false =>
    rw [if_neg (by decide)] at pe
    refine pe.mono ?_
    rintro e we ⟨rfl, rfl⟩
    clear pe
    replace hL : Hid (wordsL 4 (bL s) = [kindW 1, a1]) := by show _ = _; rw [hL.out, hmm.out]; rfl
    go_wp2_with (first | refine load_blk rfl 24 _ rfl bC rfl Tryd.underlying24 rfl sizeCa ?_ | (refine store_part rfl 24 _ _ rfl (off := 0) (cells := (Ca.mk (1) (n0) (0) (0) (0) (0) (noT)).arr) bR rfl rfl sizeCa (show 0 + 7 ≤ 7 by decide) (Ca.arr_one _) ?_; intro w9 b9 k9))
    rw [show putAt Ca.zero.arr 0 (Ca.mk (1) (n0) (0) (0) (0) (0) (noT)).arr.toList = (Ca.mk (1) (n0) (0) (0) (0) (0) (noT)).arr from putAt_all _ _ rfl] at b9
    exact bodyPost_ret (w := w9) (v := .agg (Ca.mk (1) (n0) (0) (0) (0) (0) (noT)).arr) (ret_one rfl rfl b9 Tryd.underlying24 rfl sizeCa) rfl ⟨.inl ⟨_, rfl, IsCall_of (by rw [hL.out]; exact w_ok1 hn0.out)⟩, hB.trans (k9.below1 (by omega) hB.size)⟩

set_option maxHeartbeats 8000000 in
theorem read2 (s : ByteArray) (hs : s.size ≤ 140737488355328) (w : World) (hE : Te w) (hk : kindW 2 = (cutL (bL s)).1) : Calls Tryd.prog 18 #[.string s] w (ReadQ s w) := by
  obtain ⟨r0, hr0⟩ : ∃ r0, Hid ((cutL (bL s)).2.1 = r0) := ⟨_, rfl⟩
  obtain ⟨m0, hm0⟩ : ∃ m0, Hid ((cutL (bL s)).2.2 = m0) := ⟨_, rfl⟩
  have hls : (bL s).length ≤ 140737488355328 := by rw [bL_len]; exact hs
  have hl0 : r0.length ≤ 140737488355328 := by have := (cutL_len (bL s)).2; rw [hr0.out] at this; omega
  have hz0 : Hid (m0 = false → r0 = []) := by have := (cutL_is (bL s)).2.2; rw [hm0.out, hr0.out] at this; exact this
  have bR := blk_new w Ca.zero.arr 24
  have hB := below_box w (.cells Ca.zero.arr 24)
  have bW := blk_new (w.alloc (.cells Ca.zero.arr 24)) #[.string s, .bool false] 51
  replace bR := bR.alloc (.cells #[.string s, .bool false] 51)
  replace hB := hB.alloc hB.size (.cells #[.string s, .bool false] 51)
  rw [alloc_size] at bW
  have h8w := hE.big
  replace hE := hE.next hB
  have h8 := hE.big
  go_enter Tryd.func18, Tryd.ntmps18
  go_upto_region 2 with (first | refine alloc_zero zeroCa rfl rfl ?_ | refine alloc_zero zero_words rfl rfl ?_ | refine store_new rfl 51 _ _ rfl (cells := #[.string s, .bool false]) rfl rfl size_words rfl (by rfl) ?_)
  try simp only [Act.put, List.setIfInBounds_toArray, List.set_cons_zero, List.set_cons_succ, alloc_size]
  generalize (w.alloc (Obj.cells Ca.zero.arr 24)).alloc (Obj.cells #[Value.string s, Value.bool false] 51) = W at bR bW hB hE h8 ⊢
  obtain ⟨z, hz⟩ : ∃ z, Hid (w.heap.size = z) := ⟨_, rfl⟩
  have hzB : w.heap.size ≤ z := by rw [hz.out]; exact Nat.le_refl _
  have h8z : 8 ≤ z := by rw [← hz.out]; exact h8w
  rw [hz.out] at bR bW ⊢
  clear h8 h8w
  have pn := next_ok (z + 1) (bL s) false hls W hE (by omega) (by rw [← strB_bL s] at bW; exact bW)
  rw [hr0.out, hm0.out] at pn
  go_wp2_with fail
  refine pn.mono ?_
  rintro e w1 ⟨rfl, hW, hE, hk1⟩
  replace bR := bR.kp1 hk1 (by omega)
  replace hB := hB.trans (hk1.below1 (by omega) hB.size)
  clear pn hk1 bW
  go_wp2_with fail
  refine (kindOf_ok _ _ hE.fs).mono ?_
  rintro e w2 ⟨hko, hb⟩
  replace hW := Wd.kp hW (Kp.of_below (S := []) hb) (by simp)
  replace bR := bR.below hb
  replace hB := hB.trans (hb.mono hB.size)
  replace hE := hE.next hb
  rw [bL_strB] at hko
  clear hb
  obtain rfl : e = .returned (.int .i64 2) := by
    rcases hko with ⟨d, hd, hkd, rfl⟩ | ⟨rfl, hno⟩
    · rw [kindW_inj hd (by omega) (hkd.trans hk.symm)]
      rfl
    · exact absurd hk (hno 2 (by omega))
  clear hko
  have hL : Hid (wordsL 4 (bL s) = kindW 2 :: RL 3 r0 m0) := by show _ = _; rw [words_RL, ← hk, hr0.out, hm0.out]
  have hsz := hB.size
  have hzy : z + 1 < w2.heap.size := Blk.lt hW
  have bC := blk_new w2 (Ca.mk 2 0 0 0 0 0 noT).arr 24
  have hb := below_box w2 (.cells (Ca.mk 2 0 0 0 0 0 noT).arr 24)
  replace hW := Wd.kp hW (Kp.of_below (S := []) hb) (by simp)
  replace bR := bR.below hb
  replace hB := hB.trans (hb.mono hB.size)
  replace hE := hE.next hb
  clear hb
  go_upto_region 3 with (first | refine alloc_zero zeroCa rfl rfl ?_ | refine store_new rfl 24 _ _ rfl (cells := (Ca.mk 2 0 0 0 0 0 noT).arr) rfl rfl sizeCa rfl (Ca.arr_one _) ?_)
  try simp only [Act.put, List.setIfInBounds_toArray, List.set_cons_zero, List.set_cons_succ]
  generalize w2.alloc (Obj.cells (Ca.mk 2 0 0 0 0 0 noT).arr 24) = W2 at bC bR hW hB hE ⊢
  obtain ⟨y, hy⟩ : ∃ y, Hid (w2.heap.size = y) := ⟨_, rfl⟩
  rw [hy.out] at bC hzy ⊢
  have hc0 : W2.cell? ⟨y, 0, none⟩ = some (.int .i64 2) := bC.cell 0 _ rfl
  have hsay : W2.cell? ⟨0, 5, none⟩ = some (.int .i64 3) := form_says 2 (by decide) hE.fs
  clear hsz
  obtain ⟨a1, ha1⟩ : ∃ a, Hid ((cutL r0).1 = a) := ⟨_, rfl⟩
  obtain ⟨r1, hr1⟩ : ∃ r, Hid ((cutL r0).2.1 = r) := ⟨_, rfl⟩
  obtain ⟨m1, hm1⟩ : ∃ m, Hid ((cutL r0).2.2 = m) := ⟨_, rfl⟩
  have hl1 : r1.length ≤ 140737488355328 := by have := (cutL_len r0).2; rw [hr1.out] at this; omega
  have hz1 : Hid (m1 = false → r1 = []) := by have := (cutL_is r0).2.2; rw [hm1.out, hr1.out] at this; exact this
  obtain ⟨a2, ha2⟩ : ∃ a, Hid ((cutL r1).1 = a) := ⟨_, rfl⟩
  obtain ⟨r2, hr2⟩ : ∃ r, Hid ((cutL r1).2.1 = r) := ⟨_, rfl⟩
  obtain ⟨m2, hm2⟩ : ∃ m, Hid ((cutL r1).2.2 = m) := ⟨_, rfl⟩
  have hl2 : r2.length ≤ 140737488355328 := by have := (cutL_len r1).2; rw [hr2.out] at this; omega
  have hz2 : Hid (m2 = false → r2 = []) := by have := (cutL_is r1).2.2; rw [hm2.out, hr2.out] at this; exact this
  have pn := number_ok (z + 1) r0 m0 hl0 _ hE (by omega) hW
  rw [ha1.out, hr1.out, hm1.out] at pn
  go_wp2_with fail
  refine pn.mono ?_
  clear pn
  rintro e w3 ⟨hn, hW, hE, hk⟩
  replace bR := bR.kp1 hk (by omega)
  replace bC := bC.kp1 hk (by omega)
  replace hB := hB.trans (hk.below1 (by omega) hB.size)
  clear hk
  rcases hn with ⟨n0, hn0, rfl⟩ | ⟨rfl, hn⟩
  case inr => exact ⟨rfl, .inr ⟨rfl, IsCall_of (by
    rw [hL.out]
    rcases RL_cases 2 r0 m0 with ⟨_, e⟩ | ⟨_, e⟩
    · rw [e]
      exact w_len (by decide) (by simp [manyC, RL])
    · rw [e, ha1.out]
      exact w_num (by decide) (by decide) hn)⟩, hB⟩
  replace hn0 : Hid (NumO a1 (some n0)) := hn0
  have hL : Hid (wordsL 4 (bL s) = kindW 2 :: a1 :: RL 2 r1 m1) := by show _ = _; rw [hL.out, RL_step hz0.out (by rw [ha1.out]; exact (fun e => digs_ne n0 (hn0.out.2.trans e))), ha1.out, hr1.out, hm1.out]
  go_wp2_with (refine store_one rfl 22 _ _ rfl (off := 1) (.int .u64 (n0 : Int)) bC rfl rfl rfl rfl size_u64 (show 1 + 1 ≤ 7 by decide) ?_; intro v0 bC0 kC0)
  replace bR := bR.kp1 kC0 (by omega)
  replace hW := Wd.kp hW kC0 (by simp; omega)
  replace hB := hB.trans (kC0.below1 (by omega) hB.size)
  replace hE := hE.kp kC0 (by omega)
  replace bC : Blk y (Ca.mk (2) (n0) (0) (0) (0) (0) (noT)).arr 24 v0 := bC0
  clear bC0 kC0
  have pn := within_ok 1 7 (by decide) (by decide) (z + 1) r1 m1 hl1 _ hE (by omega) hW
  rw [ha2.out, hr2.out, hm2.out] at pn
  go_wp2_with fail
  refine pn.mono ?_
  clear pn
  rintro e w4 ⟨hn, hW, hE, hk⟩
  replace bR := bR.kp1 hk (by omega)
  replace bC := bC.kp1 hk (by omega)
  replace hB := hB.trans (hk.below1 (by omega) hB.size)
  clear hk
  rcases hn with ⟨n1, hd1, hlo1, hhi1, rfl⟩ | ⟨rfl, hn⟩
  case inr => exact ⟨rfl, .inr ⟨rfl, IsCall_of (by
    rw [hL.out]
    rcases RL_cases 1 r1 m1 with ⟨_, e⟩ | ⟨_, e⟩
    · rw [e]
      exact w_len (by decide) (by simp [manyC, RL])
    · rw [e, ha2.out]
      exact w_give hn)⟩, hB⟩
  replace hd1 : Hid (digs n1 = a2 ∧ 1 ≤ n1 ∧ n1 ≤ 7) := ⟨hd1, hlo1, hhi1⟩
  clear hlo1 hhi1
  have hL : Hid (wordsL 4 (bL s) = kindW 2 :: a1 :: a2 :: RL 1 r2 m2) := by show _ = _; rw [hL.out, RL_step hz1.out (by rw [ha2.out]; exact (fun e => digs_ne n1 (hd1.out.1.trans e))), ha2.out, hr2.out, hm2.out]
  go_wp2_with (refine store_one rfl 3 _ _ rfl (off := 3) (.int .i64 (n1 : Int)) bC rfl rfl rfl rfl size_i64 (show 3 + 1 ≤ 7 by decide) ?_; intro v1 bC1 kC1)
  replace bR := bR.kp1 kC1 (by omega)
  replace hW := Wd.kp hW kC1 (by simp; omega)
  replace hB := hB.trans (kC1.below1 (by omega) hB.size)
  replace hE := hE.kp kC1 (by omega)
  replace bC : Blk y (Ca.mk (2) (n0) (0) (n1) (0) (0) (noT)).arr 24 v1 := bC1
  clear bC1 kC1
  have pe := end_ok (z + 1) r2 m2 _ hW
  obtain ⟨mm, hmm⟩ : ∃ mm, Hid (m2 = mm) := ⟨_, rfl⟩
  rw [hmm.out] at pe
  cases mm with
  | true =>
    rw [if_pos rfl] at pe
    refine pe.mono ?_
    rintro e we ⟨rfl, rfl⟩
    exact ⟨rfl, .inr ⟨rfl, IsCall_of (by
      rw [hL.out, hmm.out]
      obtain ⟨a, R, e⟩ := RL_true 1 r2
      rw [e]
      exact w_len (by decide) (by simp [manyC, RL]))⟩, hB⟩
  | false =>
    rw [if_neg (by decide)] at pe
    refine pe.mono ?_
    rintro e we ⟨rfl, rfl⟩
    clear pe
    replace hL : Hid (wordsL 4 (bL s) = [kindW 2, a1, a2]) := by show _ = _; rw [hL.out, hmm.out]; rfl
    go_wp2_with (first | refine load_blk rfl 24 _ rfl bC rfl Tryd.underlying24 rfl sizeCa ?_ | (refine store_part rfl 24 _ _ rfl (off := 0) (cells := (Ca.mk (2) (n0) (0) (n1) (0) (0) (noT)).arr) bR rfl rfl sizeCa (show 0 + 7 ≤ 7 by decide) (Ca.arr_one _) ?_; intro w9 b9 k9))
    rw [show putAt Ca.zero.arr 0 (Ca.mk (2) (n0) (0) (n1) (0) (0) (noT)).arr.toList = (Ca.mk (2) (n0) (0) (n1) (0) (0) (noT)).arr from putAt_all _ _ rfl] at b9
    exact bodyPost_ret (w := w9) (v := .agg (Ca.mk (2) (n0) (0) (n1) (0) (0) (noT)).arr) (ret_one rfl rfl b9 Tryd.underlying24 rfl sizeCa) rfl ⟨.inl ⟨_, rfl, IsCall_of (by rw [hL.out]; exact w_ok2 hn0.out hd1.out.2.1 hd1.out.2.2 hd1.out.1)⟩, hB.trans (k9.below1 (by omega) hB.size)⟩

set_option maxHeartbeats 8000000 in
theorem read3 (s : ByteArray) (hs : s.size ≤ 140737488355328) (w : World) (hE : Te w) (hk : kindW 3 = (cutL (bL s)).1) : Calls Tryd.prog 18 #[.string s] w (ReadQ s w) := by
  obtain ⟨r0, hr0⟩ : ∃ r0, Hid ((cutL (bL s)).2.1 = r0) := ⟨_, rfl⟩
  obtain ⟨m0, hm0⟩ : ∃ m0, Hid ((cutL (bL s)).2.2 = m0) := ⟨_, rfl⟩
  have hls : (bL s).length ≤ 140737488355328 := by rw [bL_len]; exact hs
  have hl0 : r0.length ≤ 140737488355328 := by have := (cutL_len (bL s)).2; rw [hr0.out] at this; omega
  have hz0 : Hid (m0 = false → r0 = []) := by have := (cutL_is (bL s)).2.2; rw [hm0.out, hr0.out] at this; exact this
  have bR := blk_new w Ca.zero.arr 24
  have hB := below_box w (.cells Ca.zero.arr 24)
  have bW := blk_new (w.alloc (.cells Ca.zero.arr 24)) #[.string s, .bool false] 51
  replace bR := bR.alloc (.cells #[.string s, .bool false] 51)
  replace hB := hB.alloc hB.size (.cells #[.string s, .bool false] 51)
  rw [alloc_size] at bW
  have h8w := hE.big
  replace hE := hE.next hB
  have h8 := hE.big
  go_enter Tryd.func18, Tryd.ntmps18
  go_upto_region 2 with (first | refine alloc_zero zeroCa rfl rfl ?_ | refine alloc_zero zero_words rfl rfl ?_ | refine store_new rfl 51 _ _ rfl (cells := #[.string s, .bool false]) rfl rfl size_words rfl (by rfl) ?_)
  try simp only [Act.put, List.setIfInBounds_toArray, List.set_cons_zero, List.set_cons_succ, alloc_size]
  generalize (w.alloc (Obj.cells Ca.zero.arr 24)).alloc (Obj.cells #[Value.string s, Value.bool false] 51) = W at bR bW hB hE h8 ⊢
  obtain ⟨z, hz⟩ : ∃ z, Hid (w.heap.size = z) := ⟨_, rfl⟩
  have hzB : w.heap.size ≤ z := by rw [hz.out]; exact Nat.le_refl _
  have h8z : 8 ≤ z := by rw [← hz.out]; exact h8w
  rw [hz.out] at bR bW ⊢
  clear h8 h8w
  have pn := next_ok (z + 1) (bL s) false hls W hE (by omega) (by rw [← strB_bL s] at bW; exact bW)
  rw [hr0.out, hm0.out] at pn
  go_wp2_with fail
  refine pn.mono ?_
  rintro e w1 ⟨rfl, hW, hE, hk1⟩
  replace bR := bR.kp1 hk1 (by omega)
  replace hB := hB.trans (hk1.below1 (by omega) hB.size)
  clear pn hk1 bW
  go_wp2_with fail
  refine (kindOf_ok _ _ hE.fs).mono ?_
  rintro e w2 ⟨hko, hb⟩
  replace hW := Wd.kp hW (Kp.of_below (S := []) hb) (by simp)
  replace bR := bR.below hb
  replace hB := hB.trans (hb.mono hB.size)
  replace hE := hE.next hb
  rw [bL_strB] at hko
  clear hb
  obtain rfl : e = .returned (.int .i64 3) := by
    rcases hko with ⟨d, hd, hkd, rfl⟩ | ⟨rfl, hno⟩
    · rw [kindW_inj hd (by omega) (hkd.trans hk.symm)]
      rfl
    · exact absurd hk (hno 3 (by omega))
  clear hko
  have hL : Hid (wordsL 4 (bL s) = kindW 3 :: RL 3 r0 m0) := by show _ = _; rw [words_RL, ← hk, hr0.out, hm0.out]
  have hsz := hB.size
  have hzy : z + 1 < w2.heap.size := Blk.lt hW
  have bC := blk_new w2 (Ca.mk 3 0 0 0 0 0 noT).arr 24
  have hb := below_box w2 (.cells (Ca.mk 3 0 0 0 0 0 noT).arr 24)
  replace hW := Wd.kp hW (Kp.of_below (S := []) hb) (by simp)
  replace bR := bR.below hb
  replace hB := hB.trans (hb.mono hB.size)
  replace hE := hE.next hb
  clear hb
  go_upto_region 3 with (first | refine alloc_zero zeroCa rfl rfl ?_ | refine store_new rfl 24 _ _ rfl (cells := (Ca.mk 3 0 0 0 0 0 noT).arr) rfl rfl sizeCa rfl (Ca.arr_one _) ?_)
  try simp only [Act.put, List.setIfInBounds_toArray, List.set_cons_zero, List.set_cons_succ]
  generalize w2.alloc (Obj.cells (Ca.mk 3 0 0 0 0 0 noT).arr 24) = W2 at bC bR hW hB hE ⊢
  obtain ⟨y, hy⟩ : ∃ y, Hid (w2.heap.size = y) := ⟨_, rfl⟩
  rw [hy.out] at bC hzy ⊢
  have hc0 : W2.cell? ⟨y, 0, none⟩ = some (.int .i64 3) := bC.cell 0 _ rfl
  have hsay : W2.cell? ⟨0, 7, none⟩ = some (.int .i64 5) := form_says 3 (by decide) hE.fs
  clear hsz
  obtain ⟨a1, ha1⟩ : ∃ a, Hid ((cutL r0).1 = a) := ⟨_, rfl⟩
  obtain ⟨r1, hr1⟩ : ∃ r, Hid ((cutL r0).2.1 = r) := ⟨_, rfl⟩
  obtain ⟨m1, hm1⟩ : ∃ m, Hid ((cutL r0).2.2 = m) := ⟨_, rfl⟩
  have hl1 : r1.length ≤ 140737488355328 := by have := (cutL_len r0).2; rw [hr1.out] at this; omega
  have hz1 : Hid (m1 = false → r1 = []) := by have := (cutL_is r0).2.2; rw [hm1.out, hr1.out] at this; exact this
  obtain ⟨a2, ha2⟩ : ∃ a, Hid ((cutL r1).1 = a) := ⟨_, rfl⟩
  obtain ⟨r2, hr2⟩ : ∃ r, Hid ((cutL r1).2.1 = r) := ⟨_, rfl⟩
  obtain ⟨m2, hm2⟩ : ∃ m, Hid ((cutL r1).2.2 = m) := ⟨_, rfl⟩
  have hl2 : r2.length ≤ 140737488355328 := by have := (cutL_len r1).2; rw [hr2.out] at this; omega
  have hz2 : Hid (m2 = false → r2 = []) := by have := (cutL_is r1).2.2; rw [hm2.out, hr2.out] at this; exact this
  have pn := number_ok (z + 1) r0 m0 hl0 _ hE (by omega) hW
  rw [ha1.out, hr1.out, hm1.out] at pn
  go_wp2_with fail
  refine pn.mono ?_
  clear pn
  rintro e w3 ⟨hn, hW, hE, hk⟩
  replace bR := bR.kp1 hk (by omega)
  replace bC := bC.kp1 hk (by omega)
  replace hB := hB.trans (hk.below1 (by omega) hB.size)
  clear hk
  rcases hn with ⟨n0, hn0, rfl⟩ | ⟨rfl, hn⟩
  case inr => exact ⟨rfl, .inr ⟨rfl, IsCall_of (by
    rw [hL.out]
    rcases RL_cases 2 r0 m0 with ⟨_, e⟩ | ⟨_, e⟩
    · rw [e]
      exact w_len (by decide) (by simp [manyC, RL])
    · rw [e, ha1.out]
      exact w_num (by decide) (by decide) hn)⟩, hB⟩
  replace hn0 : Hid (NumO a1 (some n0)) := hn0
  have hL : Hid (wordsL 4 (bL s) = kindW 3 :: a1 :: RL 2 r1 m1) := by show _ = _; rw [hL.out, RL_step hz0.out (by rw [ha1.out]; exact (fun e => digs_ne n0 (hn0.out.2.trans e))), ha1.out, hr1.out, hm1.out]
  go_wp2_with (refine store_one rfl 22 _ _ rfl (off := 1) (.int .u64 (n0 : Int)) bC rfl rfl rfl rfl size_u64 (show 1 + 1 ≤ 7 by decide) ?_; intro v0 bC0 kC0)
  replace bR := bR.kp1 kC0 (by omega)
  replace hW := Wd.kp hW kC0 (by simp; omega)
  replace hB := hB.trans (kC0.below1 (by omega) hB.size)
  replace hE := hE.kp kC0 (by omega)
  replace bC : Blk y (Ca.mk (3) (n0) (0) (0) (0) (0) (noT)).arr 24 v0 := bC0
  clear bC0 kC0
  have pn := number_ok (z + 1) r1 m1 hl1 _ hE (by omega) hW
  rw [ha2.out, hr2.out, hm2.out] at pn
  go_wp2_with fail
  refine pn.mono ?_
  clear pn
  rintro e w4 ⟨hn, hW, hE, hk⟩
  replace bR := bR.kp1 hk (by omega)
  replace bC := bC.kp1 hk (by omega)
  replace hB := hB.trans (hk.below1 (by omega) hB.size)
  clear hk
  rcases hn with ⟨n1, hn1, rfl⟩ | ⟨rfl, hn⟩
  case inr => exact ⟨rfl, .inr ⟨rfl, IsCall_of (by
    rw [hL.out]
    rcases RL_cases 1 r1 m1 with ⟨_, e⟩ | ⟨_, e⟩
    · rw [e]
      exact w_len (by decide) (by simp [manyC, RL])
    · rw [e, ha2.out]
      exact w_oth hn)⟩, hB⟩
  replace hn1 : Hid (NumO a2 (some n1)) := hn1
  have hL : Hid (wordsL 4 (bL s) = kindW 3 :: a1 :: a2 :: RL 1 r2 m2) := by show _ = _; rw [hL.out, RL_step hz1.out (by rw [ha2.out]; exact (fun e => digs_ne n1 (hn1.out.2.trans e))), ha2.out, hr2.out, hm2.out]
  go_wp2_with (refine store_one rfl 22 _ _ rfl (off := 2) (.int .u64 (n1 : Int)) bC rfl rfl rfl rfl size_u64 (show 2 + 1 ≤ 7 by decide) ?_; intro v1 bC1 kC1)
  replace bR := bR.kp1 kC1 (by omega)
  replace hW := Wd.kp hW kC1 (by simp; omega)
  replace hB := hB.trans (kC1.below1 (by omega) hB.size)
  replace hE := hE.kp kC1 (by omega)
  replace bC : Blk y (Ca.mk (3) (n0) (n1) (0) (0) (0) (noT)).arr 24 v1 := bC1
  clear bC1 kC1
  have pe := end_ok (z + 1) r2 m2 _ hW
  obtain ⟨mm, hmm⟩ : ∃ mm, Hid (m2 = mm) := ⟨_, rfl⟩
  rw [hmm.out] at pe
  cases mm with
  | true =>
    rw [if_pos rfl] at pe
    refine pe.mono ?_
    rintro e we ⟨rfl, rfl⟩
    exact ⟨rfl, .inr ⟨rfl, IsCall_of (by
      rw [hL.out, hmm.out]
      obtain ⟨a, R, e⟩ := RL_true 1 r2
      rw [e]
      exact w_len (by decide) (by simp [manyC, RL]))⟩, hB⟩
  | false =>
    rw [if_neg (by decide)] at pe
    refine pe.mono ?_
    rintro e we ⟨rfl, rfl⟩
    clear pe
    replace hL : Hid (wordsL 4 (bL s) = [kindW 3, a1, a2]) := by show _ = _; rw [hL.out, hmm.out]; rfl
    go_wp2_with (first | refine load_blk rfl 24 _ rfl bC rfl Tryd.underlying24 rfl sizeCa ?_ | (refine store_part rfl 24 _ _ rfl (off := 0) (cells := (Ca.mk (3) (n0) (n1) (0) (0) (0) (noT)).arr) bR rfl rfl sizeCa (show 0 + 7 ≤ 7 by decide) (Ca.arr_one _) ?_; intro w9 b9 k9))
    rw [show putAt Ca.zero.arr 0 (Ca.mk (3) (n0) (n1) (0) (0) (0) (noT)).arr.toList = (Ca.mk (3) (n0) (n1) (0) (0) (0) (noT)).arr from putAt_all _ _ rfl] at b9
    exact bodyPost_ret (w := w9) (v := .agg (Ca.mk (3) (n0) (n1) (0) (0) (0) (noT)).arr) (ret_one rfl rfl b9 Tryd.underlying24 rfl sizeCa) rfl ⟨.inl ⟨_, rfl, IsCall_of (by rw [hL.out]; exact w_ok3 hn0.out hn1.out)⟩, hB.trans (k9.below1 (by omega) hB.size)⟩

set_option maxHeartbeats 8000000 in
theorem read4 (s : ByteArray) (hs : s.size ≤ 140737488355328) (w : World) (hE : Te w) (hk : kindW 4 = (cutL (bL s)).1) : Calls Tryd.prog 18 #[.string s] w (ReadQ s w) := by
  obtain ⟨r0, hr0⟩ : ∃ r0, Hid ((cutL (bL s)).2.1 = r0) := ⟨_, rfl⟩
  obtain ⟨m0, hm0⟩ : ∃ m0, Hid ((cutL (bL s)).2.2 = m0) := ⟨_, rfl⟩
  have hls : (bL s).length ≤ 140737488355328 := by rw [bL_len]; exact hs
  have hl0 : r0.length ≤ 140737488355328 := by have := (cutL_len (bL s)).2; rw [hr0.out] at this; omega
  have hz0 : Hid (m0 = false → r0 = []) := by have := (cutL_is (bL s)).2.2; rw [hm0.out, hr0.out] at this; exact this
  have bR := blk_new w Ca.zero.arr 24
  have hB := below_box w (.cells Ca.zero.arr 24)
  have bW := blk_new (w.alloc (.cells Ca.zero.arr 24)) #[.string s, .bool false] 51
  replace bR := bR.alloc (.cells #[.string s, .bool false] 51)
  replace hB := hB.alloc hB.size (.cells #[.string s, .bool false] 51)
  rw [alloc_size] at bW
  have h8w := hE.big
  replace hE := hE.next hB
  have h8 := hE.big
  go_enter Tryd.func18, Tryd.ntmps18
  go_upto_region 2 with (first | refine alloc_zero zeroCa rfl rfl ?_ | refine alloc_zero zero_words rfl rfl ?_ | refine store_new rfl 51 _ _ rfl (cells := #[.string s, .bool false]) rfl rfl size_words rfl (by rfl) ?_)
  try simp only [Act.put, List.setIfInBounds_toArray, List.set_cons_zero, List.set_cons_succ, alloc_size]
  generalize (w.alloc (Obj.cells Ca.zero.arr 24)).alloc (Obj.cells #[Value.string s, Value.bool false] 51) = W at bR bW hB hE h8 ⊢
  obtain ⟨z, hz⟩ : ∃ z, Hid (w.heap.size = z) := ⟨_, rfl⟩
  have hzB : w.heap.size ≤ z := by rw [hz.out]; exact Nat.le_refl _
  have h8z : 8 ≤ z := by rw [← hz.out]; exact h8w
  rw [hz.out] at bR bW ⊢
  clear h8 h8w
  have pn := next_ok (z + 1) (bL s) false hls W hE (by omega) (by rw [← strB_bL s] at bW; exact bW)
  rw [hr0.out, hm0.out] at pn
  go_wp2_with fail
  refine pn.mono ?_
  rintro e w1 ⟨rfl, hW, hE, hk1⟩
  replace bR := bR.kp1 hk1 (by omega)
  replace hB := hB.trans (hk1.below1 (by omega) hB.size)
  clear pn hk1 bW
  go_wp2_with fail
  refine (kindOf_ok _ _ hE.fs).mono ?_
  rintro e w2 ⟨hko, hb⟩
  replace hW := Wd.kp hW (Kp.of_below (S := []) hb) (by simp)
  replace bR := bR.below hb
  replace hB := hB.trans (hb.mono hB.size)
  replace hE := hE.next hb
  rw [bL_strB] at hko
  clear hb
  obtain rfl : e = .returned (.int .i64 4) := by
    rcases hko with ⟨d, hd, hkd, rfl⟩ | ⟨rfl, hno⟩
    · rw [kindW_inj hd (by omega) (hkd.trans hk.symm)]
      rfl
    · exact absurd hk (hno 4 (by omega))
  clear hko
  have hL : Hid (wordsL 4 (bL s) = kindW 4 :: RL 3 r0 m0) := by show _ = _; rw [words_RL, ← hk, hr0.out, hm0.out]
  have hsz := hB.size
  have hzy : z + 1 < w2.heap.size := Blk.lt hW
  have bC := blk_new w2 (Ca.mk 4 0 0 0 0 0 noT).arr 24
  have hb := below_box w2 (.cells (Ca.mk 4 0 0 0 0 0 noT).arr 24)
  replace hW := Wd.kp hW (Kp.of_below (S := []) hb) (by simp)
  replace bR := bR.below hb
  replace hB := hB.trans (hb.mono hB.size)
  replace hE := hE.next hb
  clear hb
  go_upto_region 3 with (first | refine alloc_zero zeroCa rfl rfl ?_ | refine store_new rfl 24 _ _ rfl (cells := (Ca.mk 4 0 0 0 0 0 noT).arr) rfl rfl sizeCa rfl (Ca.arr_one _) ?_)
  try simp only [Act.put, List.setIfInBounds_toArray, List.set_cons_zero, List.set_cons_succ]
  generalize w2.alloc (Obj.cells (Ca.mk 4 0 0 0 0 0 noT).arr 24) = W2 at bC bR hW hB hE ⊢
  obtain ⟨y, hy⟩ : ∃ y, Hid (w2.heap.size = y) := ⟨_, rfl⟩
  rw [hy.out] at bC hzy ⊢
  have hc0 : W2.cell? ⟨y, 0, none⟩ = some (.int .i64 4) := bC.cell 0 _ rfl
  have hsay : W2.cell? ⟨0, 9, none⟩ = some (.int .i64 9) := form_says 4 (by decide) hE.fs
  clear hsz
  obtain ⟨a1, ha1⟩ : ∃ a, Hid ((cutL r0).1 = a) := ⟨_, rfl⟩
  obtain ⟨r1, hr1⟩ : ∃ r, Hid ((cutL r0).2.1 = r) := ⟨_, rfl⟩
  obtain ⟨m1, hm1⟩ : ∃ m, Hid ((cutL r0).2.2 = m) := ⟨_, rfl⟩
  have hl1 : r1.length ≤ 140737488355328 := by have := (cutL_len r0).2; rw [hr1.out] at this; omega
  have hz1 : Hid (m1 = false → r1 = []) := by have := (cutL_is r0).2.2; rw [hm1.out, hr1.out] at this; exact this
  obtain ⟨a2, ha2⟩ : ∃ a, Hid ((cutL r1).1 = a) := ⟨_, rfl⟩
  obtain ⟨r2, hr2⟩ : ∃ r, Hid ((cutL r1).2.1 = r) := ⟨_, rfl⟩
  obtain ⟨m2, hm2⟩ : ∃ m, Hid ((cutL r1).2.2 = m) := ⟨_, rfl⟩
  have hl2 : r2.length ≤ 140737488355328 := by have := (cutL_len r1).2; rw [hr2.out] at this; omega
  have hz2 : Hid (m2 = false → r2 = []) := by have := (cutL_is r1).2.2; rw [hm2.out, hr2.out] at this; exact this
  have pn := number_ok (z + 1) r0 m0 hl0 _ hE (by omega) hW
  rw [ha1.out, hr1.out, hm1.out] at pn
  go_wp2_with fail
  refine pn.mono ?_
  clear pn
  rintro e w3 ⟨hn, hW, hE, hk⟩
  replace bR := bR.kp1 hk (by omega)
  replace bC := bC.kp1 hk (by omega)
  replace hB := hB.trans (hk.below1 (by omega) hB.size)
  clear hk
  rcases hn with ⟨n0, hn0, rfl⟩ | ⟨rfl, hn⟩
  case inr => exact ⟨rfl, .inr ⟨rfl, IsCall_of (by
    rw [hL.out]
    rcases RL_cases 2 r0 m0 with ⟨_, e⟩ | ⟨_, e⟩
    · rw [e]
      exact w_len (by decide) (by simp [manyC, RL])
    · rw [e, ha1.out]
      exact w_num (by decide) (by decide) hn)⟩, hB⟩
  replace hn0 : Hid (NumO a1 (some n0)) := hn0
  have hL : Hid (wordsL 4 (bL s) = kindW 4 :: a1 :: RL 2 r1 m1) := by show _ = _; rw [hL.out, RL_step hz0.out (by rw [ha1.out]; exact (fun e => digs_ne n0 (hn0.out.2.trans e))), ha1.out, hr1.out, hm1.out]
  go_wp2_with (refine store_one rfl 22 _ _ rfl (off := 1) (.int .u64 (n0 : Int)) bC rfl rfl rfl rfl size_u64 (show 1 + 1 ≤ 7 by decide) ?_; intro v0 bC0 kC0)
  replace bR := bR.kp1 kC0 (by omega)
  replace hW := Wd.kp hW kC0 (by simp; omega)
  replace hB := hB.trans (kC0.below1 (by omega) hB.size)
  replace hE := hE.kp kC0 (by omega)
  replace bC : Blk y (Ca.mk (4) (n0) (0) (0) (0) (0) (noT)).arr 24 v0 := bC0
  clear bC0 kC0
  have pn := within_ok 0 7 (by decide) (by decide) (z + 1) r1 m1 hl1 _ hE (by omega) hW
  rw [ha2.out, hr2.out, hm2.out] at pn
  go_wp2_with fail
  refine pn.mono ?_
  clear pn
  rintro e w4 ⟨hn, hW, hE, hk⟩
  replace bR := bR.kp1 hk (by omega)
  replace bC := bC.kp1 hk (by omega)
  replace hB := hB.trans (hk.below1 (by omega) hB.size)
  clear hk
  rcases hn with ⟨n1, hd1, hlo1, hhi1, rfl⟩ | ⟨rfl, hn⟩
  case inr => exact ⟨rfl, .inr ⟨rfl, IsCall_of (by
    rw [hL.out]
    rcases RL_cases 1 r1 m1 with ⟨_, e⟩ | ⟨_, e⟩
    · rw [e]
      exact w_len (by decide) (by simp [manyC, RL])
    · rw [e, ha2.out]
      exact w_grp (by decide) (by decide) (fun n h => hn n (Nat.zero_le _) h))⟩, hB⟩
  replace hd1 : Hid (digs n1 = a2 ∧ 0 ≤ n1 ∧ n1 ≤ 7) := ⟨hd1, hlo1, hhi1⟩
  clear hlo1 hhi1
  have hL : Hid (wordsL 4 (bL s) = kindW 4 :: a1 :: a2 :: RL 1 r2 m2) := by show _ = _; rw [hL.out, RL_step hz1.out (by rw [ha2.out]; exact (fun e => digs_ne n1 (hd1.out.1.trans e))), ha2.out, hr2.out, hm2.out]
  go_wp2_with (refine store_one rfl 3 _ _ rfl (off := 4) (.int .i64 (n1 : Int)) bC rfl rfl rfl rfl size_i64 (show 4 + 1 ≤ 7 by decide) ?_; intro v1 bC1 kC1)
  replace bR := bR.kp1 kC1 (by omega)
  replace hW := Wd.kp hW kC1 (by simp; omega)
  replace hB := hB.trans (kC1.below1 (by omega) hB.size)
  replace hE := hE.kp kC1 (by omega)
  replace bC : Blk y (Ca.mk (4) (n0) (0) (0) (n1) (0) (noT)).arr 24 v1 := bC1
  clear bC1 kC1
  have pe := end_ok (z + 1) r2 m2 _ hW
  obtain ⟨mm, hmm⟩ : ∃ mm, Hid (m2 = mm) := ⟨_, rfl⟩
  rw [hmm.out] at pe
  cases mm with
  | true =>
    rw [if_pos rfl] at pe
    refine pe.mono ?_
    rintro e we ⟨rfl, rfl⟩
    exact ⟨rfl, .inr ⟨rfl, IsCall_of (by
      rw [hL.out, hmm.out]
      obtain ⟨a, R, e⟩ := RL_true 1 r2
      rw [e]
      exact w_len (by decide) (by simp [manyC, RL]))⟩, hB⟩
  | false =>
    rw [if_neg (by decide)] at pe
    refine pe.mono ?_
    rintro e we ⟨rfl, rfl⟩
    clear pe
    replace hL : Hid (wordsL 4 (bL s) = [kindW 4, a1, a2]) := by show _ = _; rw [hL.out, hmm.out]; rfl
    go_wp2_with (first | refine load_blk rfl 24 _ rfl bC rfl Tryd.underlying24 rfl sizeCa ?_ | (refine store_part rfl 24 _ _ rfl (off := 0) (cells := (Ca.mk (4) (n0) (0) (0) (n1) (0) (noT)).arr) bR rfl rfl sizeCa (show 0 + 7 ≤ 7 by decide) (Ca.arr_one _) ?_; intro w9 b9 k9))
    rw [show putAt Ca.zero.arr 0 (Ca.mk (4) (n0) (0) (0) (n1) (0) (noT)).arr.toList = (Ca.mk (4) (n0) (0) (0) (n1) (0) (noT)).arr from putAt_all _ _ rfl] at b9
    exact bodyPost_ret (w := w9) (v := .agg (Ca.mk (4) (n0) (0) (0) (n1) (0) (noT)).arr) (ret_one rfl rfl b9 Tryd.underlying24 rfl sizeCa) rfl ⟨.inl ⟨_, rfl, IsCall_of (by rw [hL.out]; exact w_ok4 hn0.out hd1.out.2.2 hd1.out.1)⟩, hB.trans (k9.below1 (by omega) hB.size)⟩

set_option maxHeartbeats 8000000 in
theorem read5 (s : ByteArray) (hs : s.size ≤ 140737488355328) (w : World) (hE : Te w) (hk : kindW 5 = (cutL (bL s)).1) : Calls Tryd.prog 18 #[.string s] w (ReadQ s w) := by
  obtain ⟨r0, hr0⟩ : ∃ r0, Hid ((cutL (bL s)).2.1 = r0) := ⟨_, rfl⟩
  obtain ⟨m0, hm0⟩ : ∃ m0, Hid ((cutL (bL s)).2.2 = m0) := ⟨_, rfl⟩
  have hls : (bL s).length ≤ 140737488355328 := by rw [bL_len]; exact hs
  have hl0 : r0.length ≤ 140737488355328 := by have := (cutL_len (bL s)).2; rw [hr0.out] at this; omega
  have hz0 : Hid (m0 = false → r0 = []) := by have := (cutL_is (bL s)).2.2; rw [hm0.out, hr0.out] at this; exact this
  have bR := blk_new w Ca.zero.arr 24
  have hB := below_box w (.cells Ca.zero.arr 24)
  have bW := blk_new (w.alloc (.cells Ca.zero.arr 24)) #[.string s, .bool false] 51
  replace bR := bR.alloc (.cells #[.string s, .bool false] 51)
  replace hB := hB.alloc hB.size (.cells #[.string s, .bool false] 51)
  rw [alloc_size] at bW
  have h8w := hE.big
  replace hE := hE.next hB
  have h8 := hE.big
  go_enter Tryd.func18, Tryd.ntmps18
  go_upto_region 2 with (first | refine alloc_zero zeroCa rfl rfl ?_ | refine alloc_zero zero_words rfl rfl ?_ | refine store_new rfl 51 _ _ rfl (cells := #[.string s, .bool false]) rfl rfl size_words rfl (by rfl) ?_)
  try simp only [Act.put, List.setIfInBounds_toArray, List.set_cons_zero, List.set_cons_succ, alloc_size]
  generalize (w.alloc (Obj.cells Ca.zero.arr 24)).alloc (Obj.cells #[Value.string s, Value.bool false] 51) = W at bR bW hB hE h8 ⊢
  obtain ⟨z, hz⟩ : ∃ z, Hid (w.heap.size = z) := ⟨_, rfl⟩
  have hzB : w.heap.size ≤ z := by rw [hz.out]; exact Nat.le_refl _
  have h8z : 8 ≤ z := by rw [← hz.out]; exact h8w
  rw [hz.out] at bR bW ⊢
  clear h8 h8w
  have pn := next_ok (z + 1) (bL s) false hls W hE (by omega) (by rw [← strB_bL s] at bW; exact bW)
  rw [hr0.out, hm0.out] at pn
  go_wp2_with fail
  refine pn.mono ?_
  rintro e w1 ⟨rfl, hW, hE, hk1⟩
  replace bR := bR.kp1 hk1 (by omega)
  replace hB := hB.trans (hk1.below1 (by omega) hB.size)
  clear pn hk1 bW
  go_wp2_with fail
  refine (kindOf_ok _ _ hE.fs).mono ?_
  rintro e w2 ⟨hko, hb⟩
  replace hW := Wd.kp hW (Kp.of_below (S := []) hb) (by simp)
  replace bR := bR.below hb
  replace hB := hB.trans (hb.mono hB.size)
  replace hE := hE.next hb
  rw [bL_strB] at hko
  clear hb
  obtain rfl : e = .returned (.int .i64 5) := by
    rcases hko with ⟨d, hd, hkd, rfl⟩ | ⟨rfl, hno⟩
    · rw [kindW_inj hd (by omega) (hkd.trans hk.symm)]
      rfl
    · exact absurd hk (hno 5 (by omega))
  clear hko
  have hL : Hid (wordsL 4 (bL s) = kindW 5 :: RL 3 r0 m0) := by show _ = _; rw [words_RL, ← hk, hr0.out, hm0.out]
  have hsz := hB.size
  have hzy : z + 1 < w2.heap.size := Blk.lt hW
  have bC := blk_new w2 (Ca.mk 5 0 0 0 0 0 noT).arr 24
  have hb := below_box w2 (.cells (Ca.mk 5 0 0 0 0 0 noT).arr 24)
  replace hW := Wd.kp hW (Kp.of_below (S := []) hb) (by simp)
  replace bR := bR.below hb
  replace hB := hB.trans (hb.mono hB.size)
  replace hE := hE.next hb
  clear hb
  go_upto_region 3 with (first | refine alloc_zero zeroCa rfl rfl ?_ | refine store_new rfl 24 _ _ rfl (cells := (Ca.mk 5 0 0 0 0 0 noT).arr) rfl rfl sizeCa rfl (Ca.arr_one _) ?_)
  try simp only [Act.put, List.setIfInBounds_toArray, List.set_cons_zero, List.set_cons_succ]
  generalize w2.alloc (Obj.cells (Ca.mk 5 0 0 0 0 0 noT).arr 24) = W2 at bC bR hW hB hE ⊢
  obtain ⟨y, hy⟩ : ∃ y, Hid (w2.heap.size = y) := ⟨_, rfl⟩
  rw [hy.out] at bC hzy ⊢
  have hc0 : W2.cell? ⟨y, 0, none⟩ = some (.int .i64 5) := bC.cell 0 _ rfl
  have hsay : W2.cell? ⟨0, 11, none⟩ = some (.int .i64 9) := form_says 5 (by decide) hE.fs
  clear hsz
  obtain ⟨a1, ha1⟩ : ∃ a, Hid ((cutL r0).1 = a) := ⟨_, rfl⟩
  obtain ⟨r1, hr1⟩ : ∃ r, Hid ((cutL r0).2.1 = r) := ⟨_, rfl⟩
  obtain ⟨m1, hm1⟩ : ∃ m, Hid ((cutL r0).2.2 = m) := ⟨_, rfl⟩
  have hl1 : r1.length ≤ 140737488355328 := by have := (cutL_len r0).2; rw [hr1.out] at this; omega
  have hz1 : Hid (m1 = false → r1 = []) := by have := (cutL_is r0).2.2; rw [hm1.out, hr1.out] at this; exact this
  obtain ⟨a2, ha2⟩ : ∃ a, Hid ((cutL r1).1 = a) := ⟨_, rfl⟩
  obtain ⟨r2, hr2⟩ : ∃ r, Hid ((cutL r1).2.1 = r) := ⟨_, rfl⟩
  obtain ⟨m2, hm2⟩ : ∃ m, Hid ((cutL r1).2.2 = m) := ⟨_, rfl⟩
  have hl2 : r2.length ≤ 140737488355328 := by have := (cutL_len r1).2; rw [hr2.out] at this; omega
  have hz2 : Hid (m2 = false → r2 = []) := by have := (cutL_is r1).2.2; rw [hm2.out, hr2.out] at this; exact this
  have pn := number_ok (z + 1) r0 m0 hl0 _ hE (by omega) hW
  rw [ha1.out, hr1.out, hm1.out] at pn
  go_wp2_with fail
  refine pn.mono ?_
  clear pn
  rintro e w3 ⟨hn, hW, hE, hk⟩
  replace bR := bR.kp1 hk (by omega)
  replace bC := bC.kp1 hk (by omega)
  replace hB := hB.trans (hk.below1 (by omega) hB.size)
  clear hk
  rcases hn with ⟨n0, hn0, rfl⟩ | ⟨rfl, hn⟩
  case inr => exact ⟨rfl, .inr ⟨rfl, IsCall_of (by
    rw [hL.out]
    rcases RL_cases 2 r0 m0 with ⟨_, e⟩ | ⟨_, e⟩
    · rw [e]
      exact w_len (by decide) (by simp [manyC, RL])
    · rw [e, ha1.out]
      exact w_num (by decide) (by decide) hn)⟩, hB⟩
  replace hn0 : Hid (NumO a1 (some n0)) := hn0
  have hL : Hid (wordsL 4 (bL s) = kindW 5 :: a1 :: RL 2 r1 m1) := by show _ = _; rw [hL.out, RL_step hz0.out (by rw [ha1.out]; exact (fun e => digs_ne n0 (hn0.out.2.trans e))), ha1.out, hr1.out, hm1.out]
  go_wp2_with (refine store_one rfl 22 _ _ rfl (off := 1) (.int .u64 (n0 : Int)) bC rfl rfl rfl rfl size_u64 (show 1 + 1 ≤ 7 by decide) ?_; intro v0 bC0 kC0)
  replace bR := bR.kp1 kC0 (by omega)
  replace hW := Wd.kp hW kC0 (by simp; omega)
  replace hB := hB.trans (kC0.below1 (by omega) hB.size)
  replace hE := hE.kp kC0 (by omega)
  replace bC : Blk y (Ca.mk (5) (n0) (0) (0) (0) (0) (noT)).arr 24 v0 := bC0
  clear bC0 kC0
  have pn := within_ok 0 7 (by decide) (by decide) (z + 1) r1 m1 hl1 _ hE (by omega) hW
  rw [ha2.out, hr2.out, hm2.out] at pn
  go_wp2_with fail
  refine pn.mono ?_
  clear pn
  rintro e w4 ⟨hn, hW, hE, hk⟩
  replace bR := bR.kp1 hk (by omega)
  replace bC := bC.kp1 hk (by omega)
  replace hB := hB.trans (hk.below1 (by omega) hB.size)
  clear hk
  rcases hn with ⟨n1, hd1, hlo1, hhi1, rfl⟩ | ⟨rfl, hn⟩
  case inr => exact ⟨rfl, .inr ⟨rfl, IsCall_of (by
    rw [hL.out]
    rcases RL_cases 1 r1 m1 with ⟨_, e⟩ | ⟨_, e⟩
    · rw [e]
      exact w_len (by decide) (by simp [manyC, RL])
    · rw [e, ha2.out]
      exact w_grp (by decide) (by decide) (fun n h => hn n (Nat.zero_le _) h))⟩, hB⟩
  replace hd1 : Hid (digs n1 = a2 ∧ 0 ≤ n1 ∧ n1 ≤ 7) := ⟨hd1, hlo1, hhi1⟩
  clear hlo1 hhi1
  have hL : Hid (wordsL 4 (bL s) = kindW 5 :: a1 :: a2 :: RL 1 r2 m2) := by show _ = _; rw [hL.out, RL_step hz1.out (by rw [ha2.out]; exact (fun e => digs_ne n1 (hd1.out.1.trans e))), ha2.out, hr2.out, hm2.out]
  go_wp2_with (refine store_one rfl 3 _ _ rfl (off := 4) (.int .i64 (n1 : Int)) bC rfl rfl rfl rfl size_i64 (show 4 + 1 ≤ 7 by decide) ?_; intro v1 bC1 kC1)
  replace bR := bR.kp1 kC1 (by omega)
  replace hW := Wd.kp hW kC1 (by simp; omega)
  replace hB := hB.trans (kC1.below1 (by omega) hB.size)
  replace hE := hE.kp kC1 (by omega)
  replace bC : Blk y (Ca.mk (5) (n0) (0) (0) (n1) (0) (noT)).arr 24 v1 := bC1
  clear bC1 kC1
  have pe := end_ok (z + 1) r2 m2 _ hW
  obtain ⟨mm, hmm⟩ : ∃ mm, Hid (m2 = mm) := ⟨_, rfl⟩
  rw [hmm.out] at pe
  cases mm with
  | true =>
    rw [if_pos rfl] at pe
    refine pe.mono ?_
    rintro e we ⟨rfl, rfl⟩
    exact ⟨rfl, .inr ⟨rfl, IsCall_of (by
      rw [hL.out, hmm.out]
      obtain ⟨a, R, e⟩ := RL_true 1 r2
      rw [e]
      exact w_len (by decide) (by simp [manyC, RL]))⟩, hB⟩
  | false =>
    rw [if_neg (by decide)] at pe
    refine pe.mono ?_
    rintro e we ⟨rfl, rfl⟩
    clear pe
    replace hL : Hid (wordsL 4 (bL s) = [kindW 5, a1, a2]) := by show _ = _; rw [hL.out, hmm.out]; rfl
    go_wp2_with (first | refine load_blk rfl 24 _ rfl bC rfl Tryd.underlying24 rfl sizeCa ?_ | (refine store_part rfl 24 _ _ rfl (off := 0) (cells := (Ca.mk (5) (n0) (0) (0) (n1) (0) (noT)).arr) bR rfl rfl sizeCa (show 0 + 7 ≤ 7 by decide) (Ca.arr_one _) ?_; intro w9 b9 k9))
    rw [show putAt Ca.zero.arr 0 (Ca.mk (5) (n0) (0) (0) (n1) (0) (noT)).arr.toList = (Ca.mk (5) (n0) (0) (0) (n1) (0) (noT)).arr from putAt_all _ _ rfl] at b9
    exact bodyPost_ret (w := w9) (v := .agg (Ca.mk (5) (n0) (0) (0) (n1) (0) (noT)).arr) (ret_one rfl rfl b9 Tryd.underlying24 rfl sizeCa) rfl ⟨.inl ⟨_, rfl, IsCall_of (by rw [hL.out]; exact w_ok5 hn0.out hd1.out.2.2 hd1.out.1)⟩, hB.trans (k9.below1 (by omega) hB.size)⟩

set_option maxHeartbeats 8000000 in
theorem read6 (s : ByteArray) (hs : s.size ≤ 140737488355328) (w : World) (hE : Te w) (hk : kindW 6 = (cutL (bL s)).1) : Calls Tryd.prog 18 #[.string s] w (ReadQ s w) := by
  obtain ⟨r0, hr0⟩ : ∃ r0, Hid ((cutL (bL s)).2.1 = r0) := ⟨_, rfl⟩
  obtain ⟨m0, hm0⟩ : ∃ m0, Hid ((cutL (bL s)).2.2 = m0) := ⟨_, rfl⟩
  have hls : (bL s).length ≤ 140737488355328 := by rw [bL_len]; exact hs
  have hl0 : r0.length ≤ 140737488355328 := by have := (cutL_len (bL s)).2; rw [hr0.out] at this; omega
  have hz0 : Hid (m0 = false → r0 = []) := by have := (cutL_is (bL s)).2.2; rw [hm0.out, hr0.out] at this; exact this
  have bR := blk_new w Ca.zero.arr 24
  have hB := below_box w (.cells Ca.zero.arr 24)
  have bW := blk_new (w.alloc (.cells Ca.zero.arr 24)) #[.string s, .bool false] 51
  replace bR := bR.alloc (.cells #[.string s, .bool false] 51)
  replace hB := hB.alloc hB.size (.cells #[.string s, .bool false] 51)
  rw [alloc_size] at bW
  have h8w := hE.big
  replace hE := hE.next hB
  have h8 := hE.big
  go_enter Tryd.func18, Tryd.ntmps18
  go_upto_region 2 with (first | refine alloc_zero zeroCa rfl rfl ?_ | refine alloc_zero zero_words rfl rfl ?_ | refine store_new rfl 51 _ _ rfl (cells := #[.string s, .bool false]) rfl rfl size_words rfl (by rfl) ?_)
  try simp only [Act.put, List.setIfInBounds_toArray, List.set_cons_zero, List.set_cons_succ, alloc_size]
  generalize (w.alloc (Obj.cells Ca.zero.arr 24)).alloc (Obj.cells #[Value.string s, Value.bool false] 51) = W at bR bW hB hE h8 ⊢
  obtain ⟨z, hz⟩ : ∃ z, Hid (w.heap.size = z) := ⟨_, rfl⟩
  have hzB : w.heap.size ≤ z := by rw [hz.out]; exact Nat.le_refl _
  have h8z : 8 ≤ z := by rw [← hz.out]; exact h8w
  rw [hz.out] at bR bW ⊢
  clear h8 h8w
  have pn := next_ok (z + 1) (bL s) false hls W hE (by omega) (by rw [← strB_bL s] at bW; exact bW)
  rw [hr0.out, hm0.out] at pn
  go_wp2_with fail
  refine pn.mono ?_
  rintro e w1 ⟨rfl, hW, hE, hk1⟩
  replace bR := bR.kp1 hk1 (by omega)
  replace hB := hB.trans (hk1.below1 (by omega) hB.size)
  clear pn hk1 bW
  go_wp2_with fail
  refine (kindOf_ok _ _ hE.fs).mono ?_
  rintro e w2 ⟨hko, hb⟩
  replace hW := Wd.kp hW (Kp.of_below (S := []) hb) (by simp)
  replace bR := bR.below hb
  replace hB := hB.trans (hb.mono hB.size)
  replace hE := hE.next hb
  rw [bL_strB] at hko
  clear hb
  obtain rfl : e = .returned (.int .i64 6) := by
    rcases hko with ⟨d, hd, hkd, rfl⟩ | ⟨rfl, hno⟩
    · rw [kindW_inj hd (by omega) (hkd.trans hk.symm)]
      rfl
    · exact absurd hk (hno 6 (by omega))
  clear hko
  have hL : Hid (wordsL 4 (bL s) = kindW 6 :: RL 3 r0 m0) := by show _ = _; rw [words_RL, ← hk, hr0.out, hm0.out]
  have hsz := hB.size
  have hzy : z + 1 < w2.heap.size := Blk.lt hW
  have bC := blk_new w2 (Ca.mk 6 0 0 0 0 0 noT).arr 24
  have hb := below_box w2 (.cells (Ca.mk 6 0 0 0 0 0 noT).arr 24)
  replace hW := Wd.kp hW (Kp.of_below (S := []) hb) (by simp)
  replace bR := bR.below hb
  replace hB := hB.trans (hb.mono hB.size)
  replace hE := hE.next hb
  clear hb
  go_upto_region 3 with (first | refine alloc_zero zeroCa rfl rfl ?_ | refine store_new rfl 24 _ _ rfl (cells := (Ca.mk 6 0 0 0 0 0 noT).arr) rfl rfl sizeCa rfl (Ca.arr_one _) ?_)
  try simp only [Act.put, List.setIfInBounds_toArray, List.set_cons_zero, List.set_cons_succ]
  generalize w2.alloc (Obj.cells (Ca.mk 6 0 0 0 0 0 noT).arr 24) = W2 at bC bR hW hB hE ⊢
  obtain ⟨y, hy⟩ : ∃ y, Hid (w2.heap.size = y) := ⟨_, rfl⟩
  rw [hy.out] at bC hzy ⊢
  have hc0 : W2.cell? ⟨y, 0, none⟩ = some (.int .i64 6) := bC.cell 0 _ rfl
  have hsay : W2.cell? ⟨0, 13, none⟩ = some (.int .i64 57) := form_says 6 (by decide) hE.fs
  clear hsz
  obtain ⟨a1, ha1⟩ : ∃ a, Hid ((cutL r0).1 = a) := ⟨_, rfl⟩
  obtain ⟨r1, hr1⟩ : ∃ r, Hid ((cutL r0).2.1 = r) := ⟨_, rfl⟩
  obtain ⟨m1, hm1⟩ : ∃ m, Hid ((cutL r0).2.2 = m) := ⟨_, rfl⟩
  have hl1 : r1.length ≤ 140737488355328 := by have := (cutL_len r0).2; rw [hr1.out] at this; omega
  have hz1 : Hid (m1 = false → r1 = []) := by have := (cutL_is r0).2.2; rw [hm1.out, hr1.out] at this; exact this
  obtain ⟨a2, ha2⟩ : ∃ a, Hid ((cutL r1).1 = a) := ⟨_, rfl⟩
  obtain ⟨r2, hr2⟩ : ∃ r, Hid ((cutL r1).2.1 = r) := ⟨_, rfl⟩
  obtain ⟨m2, hm2⟩ : ∃ m, Hid ((cutL r1).2.2 = m) := ⟨_, rfl⟩
  have hl2 : r2.length ≤ 140737488355328 := by have := (cutL_len r1).2; rw [hr2.out] at this; omega
  have hz2 : Hid (m2 = false → r2 = []) := by have := (cutL_is r1).2.2; rw [hm2.out, hr2.out] at this; exact this
  obtain ⟨a3, ha3⟩ : ∃ a, Hid ((cutL r2).1 = a) := ⟨_, rfl⟩
  obtain ⟨r3, hr3⟩ : ∃ r, Hid ((cutL r2).2.1 = r) := ⟨_, rfl⟩
  obtain ⟨m3, hm3⟩ : ∃ m, Hid ((cutL r2).2.2 = m) := ⟨_, rfl⟩
  have hl3 : r3.length ≤ 140737488355328 := by have := (cutL_len r2).2; rw [hr3.out] at this; omega
  have hz3 : Hid (m3 = false → r3 = []) := by have := (cutL_is r2).2.2; rw [hm3.out, hr3.out] at this; exact this
  have pn := number_ok (z + 1) r0 m0 hl0 _ hE (by omega) hW
  rw [ha1.out, hr1.out, hm1.out] at pn
  go_wp2_with fail
  refine pn.mono ?_
  clear pn
  rintro e w3 ⟨hn, hW, hE, hk⟩
  replace bR := bR.kp1 hk (by omega)
  replace bC := bC.kp1 hk (by omega)
  replace hB := hB.trans (hk.below1 (by omega) hB.size)
  clear hk
  rcases hn with ⟨n0, hn0, rfl⟩ | ⟨rfl, hn⟩
  case inr => exact ⟨rfl, .inr ⟨rfl, IsCall_of (by
    rw [hL.out]
    rcases RL_cases 2 r0 m0 with ⟨_, e⟩ | ⟨_, e⟩
    · rw [e]
      exact w_len (by decide) (by simp [manyC, RL])
    · rw [e, ha1.out]
      exact w_num (by decide) (by decide) hn)⟩, hB⟩
  replace hn0 : Hid (NumO a1 (some n0)) := hn0
  have hL : Hid (wordsL 4 (bL s) = kindW 6 :: a1 :: RL 2 r1 m1) := by show _ = _; rw [hL.out, RL_step hz0.out (by rw [ha1.out]; exact (fun e => digs_ne n0 (hn0.out.2.trans e))), ha1.out, hr1.out, hm1.out]
  go_wp2_with (refine store_one rfl 22 _ _ rfl (off := 1) (.int .u64 (n0 : Int)) bC rfl rfl rfl rfl size_u64 (show 1 + 1 ≤ 7 by decide) ?_; intro v0 bC0 kC0)
  replace bR := bR.kp1 kC0 (by omega)
  replace hW := Wd.kp hW kC0 (by simp; omega)
  replace hB := hB.trans (kC0.below1 (by omega) hB.size)
  replace hE := hE.kp kC0 (by omega)
  replace bC : Blk y (Ca.mk (6) (n0) (0) (0) (0) (0) (noT)).arr 24 v0 := bC0
  clear bC0 kC0
  have pn := within_ok 0 7 (by decide) (by decide) (z + 1) r1 m1 hl1 _ hE (by omega) hW
  rw [ha2.out, hr2.out, hm2.out] at pn
  go_wp2_with fail
  refine pn.mono ?_
  clear pn
  rintro e w4 ⟨hn, hW, hE, hk⟩
  replace bR := bR.kp1 hk (by omega)
  replace bC := bC.kp1 hk (by omega)
  replace hB := hB.trans (hk.below1 (by omega) hB.size)
  clear hk
  rcases hn with ⟨n1, hd1, hlo1, hhi1, rfl⟩ | ⟨rfl, hn⟩
  case inr => exact ⟨rfl, .inr ⟨rfl, IsCall_of (by
    rw [hL.out]
    rcases RL_cases 1 r1 m1 with ⟨_, e⟩ | ⟨_, e⟩
    · rw [e]
      exact w_len (by decide) (by simp [manyC, RL])
    · rw [e, ha2.out]
      exact w_grp (by decide) (by decide) (fun n h => hn n (Nat.zero_le _) h))⟩, hB⟩
  replace hd1 : Hid (digs n1 = a2 ∧ 0 ≤ n1 ∧ n1 ≤ 7) := ⟨hd1, hlo1, hhi1⟩
  clear hlo1 hhi1
  have hL : Hid (wordsL 4 (bL s) = kindW 6 :: a1 :: a2 :: RL 1 r2 m2) := by show _ = _; rw [hL.out, RL_step hz1.out (by rw [ha2.out]; exact (fun e => digs_ne n1 (hd1.out.1.trans e))), ha2.out, hr2.out, hm2.out]
  go_wp2_with (refine store_one rfl 3 _ _ rfl (off := 4) (.int .i64 (n1 : Int)) bC rfl rfl rfl rfl size_i64 (show 4 + 1 ≤ 7 by decide) ?_; intro v1 bC1 kC1)
  replace bR := bR.kp1 kC1 (by omega)
  replace hW := Wd.kp hW kC1 (by simp; omega)
  replace hB := hB.trans (kC1.below1 (by omega) hB.size)
  replace hE := hE.kp kC1 (by omega)
  replace bC : Blk y (Ca.mk (6) (n0) (0) (0) (n1) (0) (noT)).arr 24 v1 := bC1
  clear bC1 kC1
  have pn := next_ok (z + 1) r2 m2 hl2 _ hE (by omega) hW
  rw [ha3.out, hr3.out, hm3.out] at pn
  go_wp2_with fail
  refine pn.mono ?_
  clear pn
  rintro e w5 ⟨rfl, hW, hE, hk⟩
  replace bR := bR.kp1 hk (by omega)
  replace bC := bC.kp1 hk (by omega)
  replace hB := hB.trans (hk.below1 (by omega) hB.size)
  clear hk
  go_wp2_with fail
  refine (serviceOf_ok _ _ hE.fs).mono ?_
  rintro e u5 ⟨hn, rfl⟩
  rw [bL_strB] at hn
  rcases hn with ⟨n2, hhi2, hd2, rfl⟩ | ⟨rfl, hn⟩
  case inr => exact ⟨rfl, .inr ⟨rfl, IsCall_of (by
    rw [hL.out]
    rcases RL_cases 0 r2 m2 with ⟨_, e⟩ | ⟨_, e⟩
    · rw [e]
      exact w_len (by decide) (by simp [manyC, RL])
    · rw [e, ha3.out]
      exact w_srv hn)⟩, hB⟩
  replace hd2 : Hid (servW n2 = a3 ∧ n2 ≤ 3) := ⟨hd2, hhi2⟩
  clear hhi2
  have hL : Hid (wordsL 4 (bL s) = kindW 6 :: a1 :: a2 :: a3 :: RL 0 r3 m3) := by show _ = _; rw [hL.out, RL_step hz2.out (by rw [ha3.out]; exact (fun e => servW_ne n2 (hd2.out.1.trans e))), ha3.out, hr3.out, hm3.out]
  go_wp2_with (refine store_one rfl 3 _ _ rfl (off := 5) (.int .i64 (n2 : Int)) bC rfl rfl rfl rfl size_i64 (show 5 + 1 ≤ 7 by decide) ?_; intro v2 bC2 kC2)
  replace bR := bR.kp1 kC2 (by omega)
  replace hW := Wd.kp hW kC2 (by simp; omega)
  replace hB := hB.trans (kC2.below1 (by omega) hB.size)
  replace hE := hE.kp kC2 (by omega)
  replace bC : Blk y (Ca.mk (6) (n0) (0) (0) (n1) (n2) (noT)).arr 24 v2 := bC2
  clear bC2 kC2
  have pn := text_ok (z + 1) r3 m3 hl3 _ hE (by omega) hW
  go_wp2_with fail
  refine pn.mono ?_
  clear pn
  rintro e w6 ⟨hn, hE, hk⟩
  replace bR := bR.kp1 hk (by omega)
  replace bC := bC.kp1 hk (by omega)
  replace hB := hB.trans (hk.below1 (by omega) hB.size)
  clear hk
  rcases hn with ⟨⟨t, ht, ht16, rfl⟩, hW⟩ | ⟨rfl, hn⟩
  case inr => exact ⟨rfl, .inr ⟨rfl, IsCall_of (by
    rw [hL.out]
    cases m3
    · exact w_len (by decide) (by simp [manyC, RL])
    · exact w_txt (fun u hu => hn (bL u) (by rw [bL_len]; exact hu)))⟩, hB⟩
  have hL : Hid (wordsL 4 (bL s) = [kindW 6, a1, a2, a3, r3]) := by
    show _ = _
    rw [hL.out]
    have : m3 = true := by
      have h := hz3.out
      cases m3
      · rw [h rfl] at ht; cases ht
      · rfl
    rw [this]
    rfl
  have ht' : Hid (61 :: bL (strB t) = r3 ∧ (strB t).size ≤ 16) := ⟨by rw [bL_strB]; exact ht.symm, by rw [strB_size]; exact ht16⟩
  clear ht ht16
  generalize strB t = tx at ht' ⊢
  go_wp2_with (refine store_one rfl 9 _ _ rfl (off := 6) (.string tx) bC rfl rfl rfl rfl size_str (show 6 + 1 ≤ 7 by decide) ?_; intro v3 bC3 kC3)
  replace bR := bR.kp1 kC3 (by omega)
  replace hW := Wd.kp hW kC3 (by simp; omega)
  replace hB := hB.trans (kC3.below1 (by omega) hB.size)
  replace bC : Blk y (Ca.mk (6) (n0) (0) (0) (n1) (n2) (tx)).arr 24 v3 := bC3
  clear bC3 kC3
  have pe := end_ok (z + 1) r3 false _ hW
  rw [if_neg (by decide)] at pe
  refine pe.mono ?_
  rintro e we ⟨rfl, rfl⟩
  clear pe
  go_wp2_with (first | refine load_blk rfl 24 _ rfl bC rfl Tryd.underlying24 rfl sizeCa ?_ | (refine store_part rfl 24 _ _ rfl (off := 0) (cells := (Ca.mk (6) (n0) (0) (0) (n1) (n2) (tx)).arr) bR rfl rfl sizeCa (show 0 + 7 ≤ 7 by decide) (Ca.arr_one _) ?_; intro w9 b9 k9))
  rw [show putAt Ca.zero.arr 0 (Ca.mk (6) (n0) (0) (0) (n1) (n2) (tx)).arr.toList = (Ca.mk (6) (n0) (0) (0) (n1) (n2) (tx)).arr from putAt_all _ _ rfl] at b9
  exact bodyPost_ret (w := w9) (v := .agg (Ca.mk (6) (n0) (0) (0) (n1) (n2) (tx)).arr) (ret_one rfl rfl b9 Tryd.underlying24 rfl sizeCa) rfl ⟨.inl ⟨_, rfl, IsCall_of (by rw [hL.out]; exact w_ok6 hn0.out hd1.out.2.2 hd1.out.1 hd2.out.2 hd2.out.1 ht'.out.2 ht'.out.1)⟩, hB.trans (k9.below1 (by omega) hB.size)⟩

set_option maxHeartbeats 8000000 in
theorem readn (s : ByteArray) (hs : s.size ≤ 140737488355328) (w : World) (hE : Te w) (hk : ∀ d, d ≤ 6 → kindW d ≠ (cutL (bL s)).1) : Calls Tryd.prog 18 #[.string s] w (ReadQ s w) := by
  obtain ⟨r0, hr0⟩ : ∃ r0, Hid ((cutL (bL s)).2.1 = r0) := ⟨_, rfl⟩
  obtain ⟨m0, hm0⟩ : ∃ m0, Hid ((cutL (bL s)).2.2 = m0) := ⟨_, rfl⟩
  have hls : (bL s).length ≤ 140737488355328 := by rw [bL_len]; exact hs
  have hl0 : r0.length ≤ 140737488355328 := by have := (cutL_len (bL s)).2; rw [hr0.out] at this; omega
  have hz0 : Hid (m0 = false → r0 = []) := by have := (cutL_is (bL s)).2.2; rw [hm0.out, hr0.out] at this; exact this
  have bR := blk_new w Ca.zero.arr 24
  have hB := below_box w (.cells Ca.zero.arr 24)
  have bW := blk_new (w.alloc (.cells Ca.zero.arr 24)) #[.string s, .bool false] 51
  replace bR := bR.alloc (.cells #[.string s, .bool false] 51)
  replace hB := hB.alloc hB.size (.cells #[.string s, .bool false] 51)
  rw [alloc_size] at bW
  have h8w := hE.big
  replace hE := hE.next hB
  have h8 := hE.big
  go_enter Tryd.func18, Tryd.ntmps18
  go_upto_region 2 with (first | refine alloc_zero zeroCa rfl rfl ?_ | refine alloc_zero zero_words rfl rfl ?_ | refine store_new rfl 51 _ _ rfl (cells := #[.string s, .bool false]) rfl rfl size_words rfl (by rfl) ?_)
  try simp only [Act.put, List.setIfInBounds_toArray, List.set_cons_zero, List.set_cons_succ, alloc_size]
  generalize (w.alloc (Obj.cells Ca.zero.arr 24)).alloc (Obj.cells #[Value.string s, Value.bool false] 51) = W at bR bW hB hE h8 ⊢
  obtain ⟨z, hz⟩ : ∃ z, Hid (w.heap.size = z) := ⟨_, rfl⟩
  have hzB : w.heap.size ≤ z := by rw [hz.out]; exact Nat.le_refl _
  have h8z : 8 ≤ z := by rw [← hz.out]; exact h8w
  rw [hz.out] at bR bW ⊢
  clear h8 h8w
  have pn := next_ok (z + 1) (bL s) false hls W hE (by omega) (by rw [← strB_bL s] at bW; exact bW)
  rw [hr0.out, hm0.out] at pn
  go_wp2_with fail
  refine pn.mono ?_
  rintro e w1 ⟨rfl, hW, hE, hk1⟩
  replace bR := bR.kp1 hk1 (by omega)
  replace hB := hB.trans (hk1.below1 (by omega) hB.size)
  clear pn hk1 bW
  go_wp2_with fail
  refine (kindOf_ok _ _ hE.fs).mono ?_
  rintro e w2 ⟨hko, hb⟩
  replace hW := Wd.kp hW (Kp.of_below (S := []) hb) (by simp)
  replace bR := bR.below hb
  replace hB := hB.trans (hb.mono hB.size)
  replace hE := hE.next hb
  rw [bL_strB] at hko
  clear hb
  rcases hko with ⟨d, hd, hkd, rfl⟩ | ⟨rfl, _⟩
  · exact absurd hkd (hk d hd)
  exact ⟨rfl, .inr ⟨rfl, IsCall_of (w_kind hk)⟩, hB⟩

end Go.Proofs.YtiepdfngjfhadaaDoor
