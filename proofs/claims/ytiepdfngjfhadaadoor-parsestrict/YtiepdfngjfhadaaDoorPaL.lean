/-
  What the document's Parse answers: the call that a request says, or that it says none.
  Conditions: a request has at most 140737488355328 bytes.
-/
import Derived.Test.YtiepdfngjfhadaaDoorPaK
namespace Go.Proofs.YtiepdfngjfhadaaDoor
set_option maxRecDepth 10000
set_option linter.unusedSimpArgs false
open Go.RowKit Go.Sort
set_option linter.unusedVariables false
set_option linter.unusedSimpArgs false

theorem bL_kB {b : ByteArray} {k : Nat} (h : bL b = kindW k) : b = kB k := by
  apply bL_inj
  rw [h]
  rfl
theorem kLs_at {k j : Nat} (hk : k ≤ 6) (h : kLs[j]? = some (kB k)) : j = k := by
  have hj := (List.getElem?_eq_some_iff.1 h).1
  have h2 : kLs[j]? = some (kB j) := by
    have : j = 0 ∨ j = 1 ∨ j = 2 ∨ j = 3 ∨ j = 4 ∨ j = 5 ∨ j = 6 := by simp [kLs] at hj; omega
    rcases this with rfl | rfl | rfl | rfl | rfl | rfl | rfl <;> rfl
  have e := Option.some.inj (h.symm.trans h2)
  have e2 := congrArg bL e
  have hj6 : j ≤ 6 := by simp [kLs] at hj; omega
  exact (kindW_inj hk hj6 e2).symm
theorem kLs_get {k : Nat} (hk : k ≤ 6) : kLs[k]? = some (kB k) := by
  have : k = 0 ∨ k = 1 ∨ k = 2 ∨ k = 3 ∨ k = 4 ∨ k = 5 ∨ k = 6 := by omega
  rcases this with rfl | rfl | rfl | rfl | rfl | rfl | rfl <;> rfl
theorem sLs_get {k : Nat} (hk : k ≤ 3) : sLs[k]? = some (sB k) := by
  have : k = 0 ∨ k = 1 ∨ k = 2 ∨ k = 3 := by omega
  rcases this with rfl | rfl | rfl | rfl <;> rfl
theorem rat_kind (k : Nat) (hk : k ≤ 6) (a : Option Addr) (w : World) (hS : Li sv1 0 a kLs w) : Calls Tryd.prog 19 #[.slice a 7 7, .string (kB k)] w fun e w' => e = .returned (.int .i64 (k : Int)) ∧ w' = w := by
  refine (rat_ok kLs a 7 (by decide) (kB k) w hS).mono ?_
  rintro e w' ⟨⟨j, hj, rfl⟩ | ⟨rfl, hn⟩, rfl⟩
  · rw [kLs_at hk hj]
    exact ⟨rfl, rfl⟩
  · exact absurd (kLs_get hk) (hn k)
theorem rat_nokind (b : ByteArray) (hb : ∀ d, d ≤ 6 → kindW d ≠ bL b) (a : Option Addr) (w : World) (hS : Li sv1 0 a kLs w) : Calls Tryd.prog 19 #[.slice a 7 7, .string b] w fun e w' => e = .returned (.int .i64 (-1)) ∧ w' = w := by
  refine (rat_ok kLs a 7 (by decide) b w hS).mono ?_
  rintro e w' ⟨⟨j, hj, rfl⟩ | ⟨rfl, hn⟩, rfl⟩
  · have hl := (List.getElem?_eq_some_iff.1 hj).1
    have hj6 : j ≤ 6 := by simp [kLs] at hl; omega
    have e2 := Option.some.inj ((kLs_get hj6).symm.trans hj)
    exact absurd (by rw [← e2]; rfl) (hb j hj6)
  · exact ⟨rfl, rfl⟩
theorem rat_serv (b : ByteArray) (a : Option Addr) (w : World) (hS : Li sv1 0 a sLs w) : Calls Tryd.prog 19 #[.slice a 4 4, .string b] w fun e w' => (∃ v : Int, e = .returned (.int .i64 v) ∧ ((∃ k : Nat, k ≤ 3 ∧ v = (k : Int) ∧ servW k = bL b) ∨ (v = -1 ∧ ∀ k, k ≤ 3 → servW k ≠ bL b))) ∧ w' = w := by
  refine (rat_ok sLs a 4 (by decide) b w hS).mono ?_
  rintro e w' ⟨⟨j, hj, rfl⟩ | ⟨rfl, hn⟩, rfl⟩
  · have hl := (List.getElem?_eq_some_iff.1 hj).1
    have hj3 : j ≤ 3 := by simp [sLs] at hl; omega
    have e2 := Option.some.inj ((sLs_get hj3).symm.trans hj)
    exact ⟨⟨_, rfl, .inl ⟨j, hj3, rfl, by rw [← e2]; rfl⟩⟩, rfl⟩
  · refine ⟨⟨_, rfl, .inr ⟨rfl, fun k hk e => hn k ?_⟩⟩, rfl⟩
    rw [sLs_get hk]
    congr 1
    apply bL_inj
    rw [← e]
    rfl
theorem rnum_ok (s : ByteArray) (hs : s.size ≤ 9223372036854775806) (w : World) : Calls Tryd.prog 20 #[.string s] w fun e w' => (∃ (v : Nat) (is : Bool), e = .returned (.tuple #[.int .u64 (v : Int), .bool is]) ∧ NumO (bL s) (if is = true then some v else none)) ∧ w' = w := by
  refine (rnumber_ok s hs w).mono ?_
  rintro e w' ⟨rfl, rfl⟩
  exact ⟨⟨_, _, rfl, numV_O s⟩, rfl⟩
theorem rdig_ok (s : ByteArray) (lo : Nat) (hlo : lo ≤ 1) (w : World) : Calls Tryd.prog 21 #[.string s, .int .i64 (lo : Int)] w fun e w' => (∃ (v : Nat) (is : Bool), e = .returned (.tuple #[.int .i64 (v : Int), .bool is]) ∧ (is = true → lo ≤ v ∧ v ≤ 7 ∧ digs v = bL s) ∧ (is = false → ∀ n, lo ≤ n → n ≤ 7 → digs n ≠ bL s)) ∧ w' = w := by
  refine (rdigit_ok s lo hlo w).mono ?_
  rintro e w' ⟨⟨n, h7, hd, rfl⟩ | ⟨rfl, hn⟩, rfl⟩
  · refine ⟨⟨n, _, rfl, fun h => ⟨of_decide_eq_true h, h7, hd⟩, fun h m h1 _ e => ?_⟩, rfl⟩
    have := digs_inj (e.trans hd.symm)
    have := of_decide_eq_false h
    omega
  · exact ⟨⟨0, false, rfl, fun h => (by cases h), fun _ n _ h7 => hn n h7⟩, rfl⟩

/- While a request is read: the answer at z, no call at y, the words. -/
structure Pz (z y b o : Nat) (L : List ByteArray) (w0 w : World) : Prop where
  r : Blk z Ca.zero.arr 24 w
  n : Blk y Ca.zero.arr 24 w
  l : w.rangeAt b o (flat sv1 L)
  bl : b < w.heap.size
  b : Below w0.heap.size w0 w
  z0 : w0.heap.size ≤ z
theorem Pz.next {z y b o : Nat} {L : List ByteArray} {w0 w w' : World} (h : Pz z y b o L w0 w) (hb : Below w.heap.size w w') : Pz z y b o L w0 w' :=
  ⟨h.r.below hb, h.n.below hb, range_block h.l (hb.block b h.bl), Nat.lt_of_lt_of_le h.bl hb.size, h.b.trans (hb.mono h.b.size), h.z0⟩
theorem Pz.kp {z y b o x : Nat} {L : List ByteArray} {w0 w w' : World} (h : Pz z y b o L w0 w) (hk : Kp [x] w w') (h1 : z < x) (h2 : y < x) (h3 : b < x) : Pz z y b o L w0 w' :=
  ⟨h.r.kp1 hk (by omega), h.n.kp1 hk (by omega), range_block h.l (hk.block b h.bl (by simp; omega)), Nat.lt_of_lt_of_le h.bl hk.size, h.b.trans (hk.below1 (by have := h.z0; omega) h.b.size), h.z0⟩
theorem Pz.cell {z y b o : Nat} {L : List ByteArray} {w0 w : World} (h : Pz z y b o L w0 w) (i : Nat) (x : ByteArray) (hx : L[i]? = some x) : w.cell? ⟨b, o + i, none⟩ = some (.string x) := by
  have := range_part sv1_len h.l i x hx 0 _ rfl
  simpa using this
theorem Pz.cell0 {z y b o : Nat} {L : List ByteArray} {w0 w : World} (h : Pz z y b o L w0 w) (x : ByteArray) (hx : L[0]? = some x) : w.cell? ⟨b, o, none⟩ = some (.string x) := h.cell 0 x hx
theorem many_run (W : World) : (Instr.buildSlice 43 7 #[(0, .int .i64 1), (1, .int .i64 2), (2, .int .i64 3), (3, .int .i64 3), (4, .int .i64 3), (5, .int .i64 3), (6, .int .i64 5)]).run Tryd.prog W = .ok (.slice (some ⟨W.heap.size, 0, none⟩) 7 7) (W.alloc (.cells #[.int .i64 1, .int .i64 2, .int .i64 3, .int .i64 3, .int .i64 3, .int .i64 3, .int .i64 5] 3)) := by kernel_rfl
/- What the document's reading answers. -/
def RParse (s : ByteArray) (w0 : World) (e : Ending) (w : World) : Prop := (∃ o : Option Ca, IsCall (bL s) o ∧ e = .returned (.tuple #[.agg (o.getD Ca.zero).arr, .int .i64 (if o.isSome = true then 0 else 210)])) ∧ Below w0.heap.size w0 w
theorem wordsL_len : ∀ (k : Nat) (s a : List UInt8), a ∈ wordsL k s → a.length ≤ s.length
  | 0, s, a, h => by
    simp [wordsL] at h
    rw [h]
    exact Nat.le_refl _
  | k + 1, s, a, h => by
    obtain ⟨h1, h2⟩ := cutL_len s
    rw [wordsL] at h
    rcases List.mem_cons.1 h with rfl | h
    · exact h1
    · split at h
      · exact Nat.le_trans (wordsL_len k _ a h) h2
      · cases h

set_option maxHeartbeats 16000000 in
theorem rparse0 (s : ByteArray) (hs : s.size ≤ 140737488355328) (w : World) (hk : kindW 0 = (cutL (bL s)).1) : Calls Tryd.prog 9 #[.string s] w (RParse s w) := by
  have bR := blk_new w Ca.zero.arr 24
  have hB := below_box w (.cells Ca.zero.arr 24)
  have bN := blk_new (w.alloc (.cells Ca.zero.arr 24)) Ca.zero.arr 24
  replace bR := bR.alloc (.cells Ca.zero.arr 24)
  replace hB := hB.alloc hB.size (.cells Ca.zero.arr 24)
  rw [alloc_size] at bN
  have hls := bL_len s
  go_enter Tryd.func9, Tryd.ntmps9
  go_upto_region 2 with (go_big_may; first | refine build_zero builtCa rfl rfl ?_ | refine alloc_zero zeroCa rfl rfl ?_ | refine store_new rfl 24 _ _ rfl (cells := Ca.zero.arr) rfl rfl sizeCa rfl (Ca.arr_one _) ?_)
  try simp only [Act.put, List.setIfInBounds_toArray, List.set_cons_zero, List.set_cons_succ, alloc_size]
  generalize (w.alloc (Obj.cells Ca.zero.arr 24)).alloc (Obj.cells Ca.zero.arr 24) = W at bR bN hB ⊢
  obtain ⟨z, hz⟩ : ∃ z, Hid (w.heap.size = z) := ⟨_, rfl⟩
  have hzB : w.heap.size ≤ z := by rw [hz.out]; exact Nat.le_refl _
  rw [hz.out] at bR bN ⊢
  have pw := rwords_ok s hs 4 (by omega) W
  go_wp2_with fail
  refine pw.mono ?_
  clear pw
  rintro e V ⟨⟨a, L, lc, rfl, hLw, hS⟩, hb⟩
  obtain ⟨b0, R, hR⟩ : ∃ b0 R, L = b0 :: R := by
    obtain ⟨x, q, hq⟩ := wordsL_ne 4 (bL s)
    cases L with
    | nil => rw [hq] at hLw; cases hLw
    | cons b R => exact ⟨b, R, rfl⟩
  obtain ⟨b, o, rfl, hbl, hr⟩ : ∃ b o, a = some ⟨b, o, none⟩ ∧ b < V.heap.size ∧ V.rangeAt b o (flat sv1 L) := by
    rcases hS with h | ⟨b, o, e, _, h1, h2⟩
    · rw [hR] at h; cases h
    · exact ⟨b, o, e, h1, h2⟩
  have hP : Pz z (z + 1) b o L w V := ⟨bR.below hb, bN.below hb, hr, hbl, hB.trans (hb.mono hB.size), hzB⟩
  clear bR bN hb hr hbl hB hS hzB
  have hb0 : L[0]? = some b0 := by rw [hR]; rfl
  have hmr := many_run
  have hw0 : bL b0 = (cutL (bL s)).1 := by
    rw [hR, words_RL] at hLw
    exact (List.cons.inj hLw).1
  obtain rfl : b0 = kB 0 := bL_kB (hw0.trans hk.symm)
  have HL : Hid (wordsL 4 (bL s) = kindW 0 :: R.map bL) := by show _ = _; rw [← hLw, hR]; rfl
  clear hw0 hls
  by_cases hn : R.length + 1 = 1
  · obtain rfl : R = [] := by
      match R, hn with
      | [], _ => rfl
    subst hR
    rw [show (kB 0 :: [] : List ByteArray).length = 1 from rfl]
    replace HL : Hid (wordsL 4 (bL s) = [kindW 0]) := HL
    clear hLw hn
    go_upto_region 3 with fail
    try simp only [Act.put, List.setIfInBounds_toArray, List.set_cons_zero, List.set_cons_succ]
    refine wp_region_held_drew (S := fun v => Below V.heap.size V v) (by kernel_rfl) ((Below.refl _ _).drew) (fun hHeld => ?_)
    refine tkQ 1 hHeld ?_
    try simp only [yy]
    refine tkQ 2 hHeld ?_
    try simp only [yy]
    refine tkH 3 (v := ?v7) rfl (by kernel_rfl) (fun _ _ _ h => h) (Or.inl ⟨by rfl, ?hy7⟩) hHeld ?rest7
    case hy7 => (intro w hSw; have hc : World.cell? _ ⟨b, o, none⟩ = some (.string (kB 0)) := (hP.next hSw).cell0 _ hb0; clear hSw; go_simp; try with_reducible rfl)
    try simp only [yy]
    refine rd1 0 (fun K hK => ?_)
    go_simp
    go_wp2_with (refine (rkinds_ok _).mono ?_; rintro r u1 ⟨⟨gk, rfl, hKi⟩, hb⟩)
    refine hK.out _ _ (below_next hHeld hb) (fun hHeld => ?_)
    clear hK K hb
    refine rd1 4 (fun K hK => ?_)
    go_simp
    go_wp2_with (refine (rat_kind 0 (by decide) _ _ hKi).mono ?_; rintro r u2 ⟨rfl, rfl⟩)
    refine hK.out _ _ hHeld (fun hHeld => ?_)
    clear hK K 
    refine tkQ 5 hHeld ?_
    try simp only [yy]
    refine wpAnyH_done (by kernel_rfl) ?_ _
    replace hP := hP.next hHeld
    clear hHeld hKi
    rename World => V1
    have bM := blk_new V1 #[.int .i64 1, .int .i64 2, .int .i64 3, .int .i64 3, .int .i64 3, .int .i64 3, .int .i64 5] 3
    have hb := below_box V1 (.cells #[.int .i64 1, .int .i64 2, .int .i64 3, .int .i64 3, .int .i64 3, .int .i64 3, .int .i64 5] 3)
    replace hP := hP.next hb
    clear hb
    have hcm : (V1.alloc (.cells #[.int .i64 1, .int .i64 2, .int .i64 3, .int .i64 3, .int .i64 3, .int .i64 3, .int .i64 5] 3)).cell? ⟨V1.heap.size, 0, none⟩ = some (.int .i64 1) := bM.cell 0 _ rfl
    go_upto_region 7 with fail
    try simp only [Act.put, List.setIfInBounds_toArray, List.set_cons_zero, List.set_cons_succ]
    generalize V1.alloc (Obj.cells #[.int .i64 1, .int .i64 2, .int .i64 3, .int .i64 3, .int .i64 3, .int .i64 3, .int .i64 5] 3) = V2 at hP ⊢
    clear bM hcm
    have bC := blk_new V2 (Ca.mk (0) (0) (0) (0) (0) (0) (noT)).arr 24
    have hb := below_box V2 (.cells (Ca.mk (0) (0) (0) (0) (0) (0) (noT)).arr 24)
    have hy1 : z < V2.heap.size := hP.r.lt
    have hy2 : z + 1 < V2.heap.size := hP.n.lt
    have hy3 : b < V2.heap.size := hP.bl
    replace hP := hP.next hb
    clear hb
    go_upto_region 8 with (go_big_may; first | refine alloc_zero zeroCa rfl rfl ?_ | refine store_new rfl 24 _ _ rfl (cells := (Ca.mk (0) (0) (0) (0) (0) (0) (noT)).arr) rfl rfl sizeCa rfl (Ca.arr_one _) ?_)
    try simp only [Act.put, List.setIfInBounds_toArray, List.set_cons_zero, List.set_cons_succ]
    generalize V2.alloc (Obj.cells (Ca.mk (0) (0) (0) (0) (0) (0) (noT)).arr 24) = V3 at bC hP ⊢
    obtain ⟨y, hy⟩ : ∃ y, Hid (V2.heap.size = y) := ⟨_, rfl⟩
    rw [hy.out] at bC hy1 hy2 hy3 ⊢
    go_wp2_with (first | refine load_blk rfl 24 _ rfl bC rfl Tryd.underlying24 rfl sizeCa ?_ | (refine store_part rfl 24 _ _ rfl (off := 0) (cells := (Ca.mk (0) (0) (0) (0) (0) (0) (noT)).arr) hP.r rfl rfl sizeCa (show 0 + 7 ≤ 7 by decide) (Ca.arr_one _) ?_; intro w9 b9 k9))
    rw [show putAt Ca.zero.arr 0 (Ca.mk (0) (0) (0) (0) (0) (0) (noT)).arr.toList = (Ca.mk (0) (0) (0) (0) (0) (0) (noT)).arr from putAt_all _ _ rfl] at b9
    exact bodyPost_ret (w := w9) (v := .tuple #[.agg (Ca.mk (0) (0) (0) (0) (0) (0) (noT)).arr, .int .i64 0]) (ret_two rfl rfl b9 Tryd.underlying24 rfl sizeCa rfl) rfl ⟨⟨some (Ca.mk (0) (0) (0) (0) (0) (0) (noT)), IsCall_of (by rw [HL.out]; exact w_ok0), rfl⟩, hP.b.trans (k9.below1 hP.z0 hP.b.size)⟩
  · have HN : Hid (R.length + 1 ≠ 1) := hn
    obtain ⟨nL, hnL⟩ : ∃ n, Hid (L.length = n) := ⟨_, rfl⟩
    have hnp : 0 < nL := by rw [← hnL.out, hR]; simp
    have e1 : ((nL : Int) != 1) = true := by
      have : nL ≠ 1 := by rw [← hnL.out, hR]; simpa using hn
      simp; omega
    rw [hnL.out]
    clear hn hR hLw
    go_upto_region 3 with fail
    try simp only [Act.put, List.setIfInBounds_toArray, List.set_cons_zero, List.set_cons_succ]
    refine wp_region_held_drew (S := fun v => Below V.heap.size V v) (by kernel_rfl) ((Below.refl _ _).drew) (fun hHeld => ?_)
    refine tkQ 1 hHeld ?_
    try simp only [yy]
    refine tkQ 2 hHeld ?_
    try simp only [yy]
    refine tkH 3 (v := ?v3) rfl (by kernel_rfl) (fun _ _ _ h => h) (Or.inl ⟨by rfl, ?hy3⟩) hHeld ?rest3
    case hy3 => (intro w hSw; have hc : World.cell? _ ⟨b, o, none⟩ = some (.string (kB 0)) := (hP.next hSw).cell0 _ hb0; clear hSw; go_simp; try with_reducible rfl)
    try simp only [yy]
    refine rd1 0 (fun K hK => ?_)
    go_simp
    go_wp2_with (refine (rkinds_ok _).mono ?_; rintro r u1 ⟨⟨gk, rfl, hKi⟩, hb⟩)
    refine hK.out _ _ (below_next hHeld hb) (fun hHeld => ?_)
    clear hK K hb
    refine rd1 4 (fun K hK => ?_)
    go_simp
    go_wp2_with (refine (rat_kind 0 (by decide) _ _ hKi).mono ?_; rintro r u2 ⟨rfl, rfl⟩)
    refine hK.out _ _ hHeld (fun hHeld => ?_)
    clear hK K 
    refine tkQ 5 hHeld ?_
    try simp only [yy]
    refine wpAnyH_done (by kernel_rfl) ?_ _
    replace hP := hP.next hHeld
    clear hHeld hKi
    rename World => V1
    have bM := blk_new V1 #[.int .i64 1, .int .i64 2, .int .i64 3, .int .i64 3, .int .i64 3, .int .i64 3, .int .i64 5] 3
    have hb := below_box V1 (.cells #[.int .i64 1, .int .i64 2, .int .i64 3, .int .i64 3, .int .i64 3, .int .i64 3, .int .i64 5] 3)
    replace hP := hP.next hb
    clear hb
    have hcm : (V1.alloc (.cells #[.int .i64 1, .int .i64 2, .int .i64 3, .int .i64 3, .int .i64 3, .int .i64 3, .int .i64 5] 3)).cell? ⟨V1.heap.size, 0, none⟩ = some (.int .i64 1) := bM.cell 0 _ rfl
    go_wp2_with (first | refine load_blk rfl 24 _ rfl hP.n rfl Tryd.underlying24 rfl sizeCa ?_ | (refine store_part rfl 24 _ _ rfl (off := 0) (cells := Ca.zero.arr) hP.r rfl rfl sizeCa (show 0 + 7 ≤ 7 by decide) (Ca.arr_one _) ?_; intro w9 b9 k9))
    rw [putAt_all Ca.zero.arr Ca.zero.arr rfl] at b9
    exact bodyPost_ret (w := w9) (v := .tuple #[.agg Ca.zero.arr, .int .i64 210]) (ret_two rfl rfl b9 Tryd.underlying24 rfl sizeCa rfl) rfl ⟨⟨none, IsCall_of (by rw [HL.out]; exact w_len (by decide) (by simpa [manyC] using HN.out)), rfl⟩, hP.b.trans (k9.below1 hP.z0 hP.b.size)⟩

set_option maxHeartbeats 16000000 in
theorem rparse1 (s : ByteArray) (hs : s.size ≤ 140737488355328) (w : World) (hk : kindW 1 = (cutL (bL s)).1) : Calls Tryd.prog 9 #[.string s] w (RParse s w) := by
  have bR := blk_new w Ca.zero.arr 24
  have hB := below_box w (.cells Ca.zero.arr 24)
  have bN := blk_new (w.alloc (.cells Ca.zero.arr 24)) Ca.zero.arr 24
  replace bR := bR.alloc (.cells Ca.zero.arr 24)
  replace hB := hB.alloc hB.size (.cells Ca.zero.arr 24)
  rw [alloc_size] at bN
  have hls := bL_len s
  go_enter Tryd.func9, Tryd.ntmps9
  go_upto_region 2 with (go_big_may; first | refine build_zero builtCa rfl rfl ?_ | refine alloc_zero zeroCa rfl rfl ?_ | refine store_new rfl 24 _ _ rfl (cells := Ca.zero.arr) rfl rfl sizeCa rfl (Ca.arr_one _) ?_)
  try simp only [Act.put, List.setIfInBounds_toArray, List.set_cons_zero, List.set_cons_succ, alloc_size]
  generalize (w.alloc (Obj.cells Ca.zero.arr 24)).alloc (Obj.cells Ca.zero.arr 24) = W at bR bN hB ⊢
  obtain ⟨z, hz⟩ : ∃ z, Hid (w.heap.size = z) := ⟨_, rfl⟩
  have hzB : w.heap.size ≤ z := by rw [hz.out]; exact Nat.le_refl _
  rw [hz.out] at bR bN ⊢
  have pw := rwords_ok s hs 4 (by omega) W
  go_wp2_with fail
  refine pw.mono ?_
  clear pw
  rintro e V ⟨⟨a, L, lc, rfl, hLw, hS⟩, hb⟩
  obtain ⟨b0, R, hR⟩ : ∃ b0 R, L = b0 :: R := by
    obtain ⟨x, q, hq⟩ := wordsL_ne 4 (bL s)
    cases L with
    | nil => rw [hq] at hLw; cases hLw
    | cons b R => exact ⟨b, R, rfl⟩
  obtain ⟨b, o, rfl, hbl, hr⟩ : ∃ b o, a = some ⟨b, o, none⟩ ∧ b < V.heap.size ∧ V.rangeAt b o (flat sv1 L) := by
    rcases hS with h | ⟨b, o, e, _, h1, h2⟩
    · rw [hR] at h; cases h
    · exact ⟨b, o, e, h1, h2⟩
  have hP : Pz z (z + 1) b o L w V := ⟨bR.below hb, bN.below hb, hr, hbl, hB.trans (hb.mono hB.size), hzB⟩
  clear bR bN hb hr hbl hB hS hzB
  have hb0 : L[0]? = some b0 := by rw [hR]; rfl
  have hmr := many_run
  have hw0 : bL b0 = (cutL (bL s)).1 := by
    rw [hR, words_RL] at hLw
    exact (List.cons.inj hLw).1
  obtain rfl : b0 = kB 1 := bL_kB (hw0.trans hk.symm)
  have HL : Hid (wordsL 4 (bL s) = kindW 1 :: R.map bL) := by show _ = _; rw [← hLw, hR]; rfl
  clear hw0 hls
  by_cases hn : R.length + 1 = 2
  · obtain ⟨b1, rfl⟩ : ∃ b1, R = [b1] := by
      match R, hn with
      | [b1], _ => exact ⟨b1, rfl⟩
    subst hR
    rw [show (kB 1 :: [b1] : List ByteArray).length = 2 from rfl]
    replace HL : Hid (wordsL 4 (bL s) = [kindW 1, bL b1]) := by show _ = _; rw [HL.out]; rfl
    have hzb1 : b1.size ≤ 140737488355328 := by
      have := wordsL_len 4 (bL s) (bL b1) (by rw [HL.out]; simp)
      rw [bL_len, bL_len] at this
      omega
    clear hLw hn
    go_upto_region 3 with fail
    try simp only [Act.put, List.setIfInBounds_toArray, List.set_cons_zero, List.set_cons_succ]
    refine wp_region_held_drew (S := fun v => Below V.heap.size V v) (by kernel_rfl) ((Below.refl _ _).drew) (fun hHeld => ?_)
    refine tkQ 1 hHeld ?_
    try simp only [yy]
    refine tkQ 2 hHeld ?_
    try simp only [yy]
    refine tkH 3 (v := ?v15) rfl (by kernel_rfl) (fun _ _ _ h => h) (Or.inl ⟨by rfl, ?hy15⟩) hHeld ?rest15
    case hy15 => (intro w hSw; have hc : World.cell? _ ⟨b, o, none⟩ = some (.string (kB 1)) := (hP.next hSw).cell0 _ hb0; clear hSw; go_simp; try with_reducible rfl)
    try simp only [yy]
    refine rd1 0 (fun K hK => ?_)
    go_simp
    go_wp2_with (refine (rkinds_ok _).mono ?_; rintro r u1 ⟨⟨gk, rfl, hKi⟩, hb⟩)
    refine hK.out _ _ (below_next hHeld hb) (fun hHeld => ?_)
    clear hK K hb
    refine rd1 4 (fun K hK => ?_)
    go_simp
    go_wp2_with (refine (rat_kind 1 (by decide) _ _ hKi).mono ?_; rintro r u2 ⟨rfl, rfl⟩)
    refine hK.out _ _ hHeld (fun hHeld => ?_)
    clear hK K 
    refine tkQ 5 hHeld ?_
    try simp only [yy]
    refine wpAnyH_done (by kernel_rfl) ?_ _
    replace hP := hP.next hHeld
    clear hHeld hKi
    rename World => V1
    have bM := blk_new V1 #[.int .i64 1, .int .i64 2, .int .i64 3, .int .i64 3, .int .i64 3, .int .i64 3, .int .i64 5] 3
    have hb := below_box V1 (.cells #[.int .i64 1, .int .i64 2, .int .i64 3, .int .i64 3, .int .i64 3, .int .i64 3, .int .i64 5] 3)
    replace hP := hP.next hb
    clear hb
    have hcm : (V1.alloc (.cells #[.int .i64 1, .int .i64 2, .int .i64 3, .int .i64 3, .int .i64 3, .int .i64 3, .int .i64 5] 3)).cell? ⟨V1.heap.size, 1, none⟩ = some (.int .i64 2) := bM.cell 1 _ rfl
    go_upto_region 7 with fail
    try simp only [Act.put, List.setIfInBounds_toArray, List.set_cons_zero, List.set_cons_succ]
    generalize V1.alloc (Obj.cells #[.int .i64 1, .int .i64 2, .int .i64 3, .int .i64 3, .int .i64 3, .int .i64 3, .int .i64 5] 3) = V2 at hP ⊢
    clear bM hcm
    have bC := blk_new V2 (Ca.mk (1) (0) (0) (0) (0) (0) (noT)).arr 24
    have hb := below_box V2 (.cells (Ca.mk (1) (0) (0) (0) (0) (0) (noT)).arr 24)
    have hy1 : z < V2.heap.size := hP.r.lt
    have hy2 : z + 1 < V2.heap.size := hP.n.lt
    have hy3 : b < V2.heap.size := hP.bl
    replace hP := hP.next hb
    clear hb
    go_upto_region 8 with (go_big_may; first | refine alloc_zero zeroCa rfl rfl ?_ | refine store_new rfl 24 _ _ rfl (cells := (Ca.mk (1) (0) (0) (0) (0) (0) (noT)).arr) rfl rfl sizeCa rfl (Ca.arr_one _) ?_)
    try simp only [Act.put, List.setIfInBounds_toArray, List.set_cons_zero, List.set_cons_succ]
    generalize V2.alloc (Obj.cells (Ca.mk (1) (0) (0) (0) (0) (0) (noT)).arr 24) = V3 at bC hP ⊢
    obtain ⟨y, hy⟩ : ∃ y, Hid (V2.heap.size = y) := ⟨_, rfl⟩
    rw [hy.out] at bC hy1 hy2 hy3 ⊢
    have hc1 : V3.cell? ⟨b, o + 1, none⟩ = some (.string b1) := hP.cell 1 b1 rfl
    go_wp2_with fail
    refine (rnum_ok b1 (by omega) _).mono ?_
    rintro e V4 ⟨⟨v1, is1, rfl, hn1⟩, rfl⟩
    cases is1 with
    | false =>
      rw [if_neg (by decide)] at hn1
      have HN := (show Hid (NumO (bL b1) none) from hn1)
      clear hn1
      go_wp2_with (first | refine load_blk rfl 24 _ rfl hP.n rfl Tryd.underlying24 rfl sizeCa ?_ | (refine store_part rfl 24 _ _ rfl (off := 0) (cells := Ca.zero.arr) hP.r rfl rfl sizeCa (show 0 + 7 ≤ 7 by decide) (Ca.arr_one _) ?_; intro w9 b9 k9))
      rw [putAt_all Ca.zero.arr Ca.zero.arr rfl] at b9
      exact bodyPost_ret (w := w9) (v := .tuple #[.agg Ca.zero.arr, .int .i64 210]) (ret_two rfl rfl b9 Tryd.underlying24 rfl sizeCa rfl) rfl ⟨⟨none, IsCall_of (by rw [HL.out]; exact w_num (by decide) (by decide) HN.out), rfl⟩, hP.b.trans (k9.below1 hP.z0 hP.b.size)⟩
    | true =>
      rw [if_pos rfl] at hn1
      have HN1 := (show Hid (NumO (bL b1) (some v1)) from hn1)
      clear hn1
      go_wp2_with (first | (refine store_one rfl 22 _ _ rfl (off := 1) (.int .u64 (v1 : Int)) bC rfl rfl rfl rfl size_u64 (show 1 + 1 ≤ 7 by decide) ?_; intro w1 bC1 kC1; have hP1 := hP.kp kC1 hy1 hy2 hy3) | refine load_blk rfl 24 _ rfl bC1 rfl Tryd.underlying24 rfl sizeCa ?_ | (refine store_part rfl 24 _ _ rfl (off := 0) (cells := (Ca.mk (1) (v1) (0) (0) (0) (0) (noT)).arr) hP1.r rfl rfl sizeCa (show 0 + 7 ≤ 7 by decide) (Ca.arr_one _) ?_; intro w9 b9 k9))
      rw [show putAt Ca.zero.arr 0 (Ca.mk (1) (v1) (0) (0) (0) (0) (noT)).arr.toList = (Ca.mk (1) (v1) (0) (0) (0) (0) (noT)).arr from putAt_all _ _ rfl] at b9
      exact bodyPost_ret (w := w9) (v := .tuple #[.agg (Ca.mk (1) (v1) (0) (0) (0) (0) (noT)).arr, .int .i64 0]) (ret_two rfl rfl b9 Tryd.underlying24 rfl sizeCa rfl) rfl ⟨⟨some (Ca.mk (1) (v1) (0) (0) (0) (0) (noT)), IsCall_of (by rw [HL.out]; exact w_ok1 HN1.out), rfl⟩, hP1.b.trans (k9.below1 hP1.z0 hP1.b.size)⟩
  · have HN : Hid (R.length + 1 ≠ 2) := hn
    obtain ⟨nL, hnL⟩ : ∃ n, Hid (L.length = n) := ⟨_, rfl⟩
    have hnp : 0 < nL := by rw [← hnL.out, hR]; simp
    have e1 : ((nL : Int) != 2) = true := by
      have : nL ≠ 2 := by rw [← hnL.out, hR]; simpa using hn
      simp; omega
    rw [hnL.out]
    clear hn hR hLw
    go_upto_region 3 with fail
    try simp only [Act.put, List.setIfInBounds_toArray, List.set_cons_zero, List.set_cons_succ]
    refine wp_region_held_drew (S := fun v => Below V.heap.size V v) (by kernel_rfl) ((Below.refl _ _).drew) (fun hHeld => ?_)
    refine tkQ 1 hHeld ?_
    try simp only [yy]
    refine tkQ 2 hHeld ?_
    try simp only [yy]
    refine tkH 3 (v := ?v11) rfl (by kernel_rfl) (fun _ _ _ h => h) (Or.inl ⟨by rfl, ?hy11⟩) hHeld ?rest11
    case hy11 => (intro w hSw; have hc : World.cell? _ ⟨b, o, none⟩ = some (.string (kB 1)) := (hP.next hSw).cell0 _ hb0; clear hSw; go_simp; try with_reducible rfl)
    try simp only [yy]
    refine rd1 0 (fun K hK => ?_)
    go_simp
    go_wp2_with (refine (rkinds_ok _).mono ?_; rintro r u1 ⟨⟨gk, rfl, hKi⟩, hb⟩)
    refine hK.out _ _ (below_next hHeld hb) (fun hHeld => ?_)
    clear hK K hb
    refine rd1 4 (fun K hK => ?_)
    go_simp
    go_wp2_with (refine (rat_kind 1 (by decide) _ _ hKi).mono ?_; rintro r u2 ⟨rfl, rfl⟩)
    refine hK.out _ _ hHeld (fun hHeld => ?_)
    clear hK K 
    refine tkQ 5 hHeld ?_
    try simp only [yy]
    refine wpAnyH_done (by kernel_rfl) ?_ _
    replace hP := hP.next hHeld
    clear hHeld hKi
    rename World => V1
    have bM := blk_new V1 #[.int .i64 1, .int .i64 2, .int .i64 3, .int .i64 3, .int .i64 3, .int .i64 3, .int .i64 5] 3
    have hb := below_box V1 (.cells #[.int .i64 1, .int .i64 2, .int .i64 3, .int .i64 3, .int .i64 3, .int .i64 3, .int .i64 5] 3)
    replace hP := hP.next hb
    clear hb
    have hcm : (V1.alloc (.cells #[.int .i64 1, .int .i64 2, .int .i64 3, .int .i64 3, .int .i64 3, .int .i64 3, .int .i64 5] 3)).cell? ⟨V1.heap.size, 1, none⟩ = some (.int .i64 2) := bM.cell 1 _ rfl
    go_wp2_with (first | refine load_blk rfl 24 _ rfl hP.n rfl Tryd.underlying24 rfl sizeCa ?_ | (refine store_part rfl 24 _ _ rfl (off := 0) (cells := Ca.zero.arr) hP.r rfl rfl sizeCa (show 0 + 7 ≤ 7 by decide) (Ca.arr_one _) ?_; intro w9 b9 k9))
    rw [putAt_all Ca.zero.arr Ca.zero.arr rfl] at b9
    exact bodyPost_ret (w := w9) (v := .tuple #[.agg Ca.zero.arr, .int .i64 210]) (ret_two rfl rfl b9 Tryd.underlying24 rfl sizeCa rfl) rfl ⟨⟨none, IsCall_of (by rw [HL.out]; exact w_len (by decide) (by simpa [manyC] using HN.out)), rfl⟩, hP.b.trans (k9.below1 hP.z0 hP.b.size)⟩

set_option maxHeartbeats 16000000 in
theorem rparse2 (s : ByteArray) (hs : s.size ≤ 140737488355328) (w : World) (hk : kindW 2 = (cutL (bL s)).1) : Calls Tryd.prog 9 #[.string s] w (RParse s w) := by
  have bR := blk_new w Ca.zero.arr 24
  have hB := below_box w (.cells Ca.zero.arr 24)
  have bN := blk_new (w.alloc (.cells Ca.zero.arr 24)) Ca.zero.arr 24
  replace bR := bR.alloc (.cells Ca.zero.arr 24)
  replace hB := hB.alloc hB.size (.cells Ca.zero.arr 24)
  rw [alloc_size] at bN
  have hls := bL_len s
  go_enter Tryd.func9, Tryd.ntmps9
  go_upto_region 2 with (go_big_may; first | refine build_zero builtCa rfl rfl ?_ | refine alloc_zero zeroCa rfl rfl ?_ | refine store_new rfl 24 _ _ rfl (cells := Ca.zero.arr) rfl rfl sizeCa rfl (Ca.arr_one _) ?_)
  try simp only [Act.put, List.setIfInBounds_toArray, List.set_cons_zero, List.set_cons_succ, alloc_size]
  generalize (w.alloc (Obj.cells Ca.zero.arr 24)).alloc (Obj.cells Ca.zero.arr 24) = W at bR bN hB ⊢
  obtain ⟨z, hz⟩ : ∃ z, Hid (w.heap.size = z) := ⟨_, rfl⟩
  have hzB : w.heap.size ≤ z := by rw [hz.out]; exact Nat.le_refl _
  rw [hz.out] at bR bN ⊢
  have pw := rwords_ok s hs 4 (by omega) W
  go_wp2_with fail
  refine pw.mono ?_
  clear pw
  rintro e V ⟨⟨a, L, lc, rfl, hLw, hS⟩, hb⟩
  obtain ⟨b0, R, hR⟩ : ∃ b0 R, L = b0 :: R := by
    obtain ⟨x, q, hq⟩ := wordsL_ne 4 (bL s)
    cases L with
    | nil => rw [hq] at hLw; cases hLw
    | cons b R => exact ⟨b, R, rfl⟩
  obtain ⟨b, o, rfl, hbl, hr⟩ : ∃ b o, a = some ⟨b, o, none⟩ ∧ b < V.heap.size ∧ V.rangeAt b o (flat sv1 L) := by
    rcases hS with h | ⟨b, o, e, _, h1, h2⟩
    · rw [hR] at h; cases h
    · exact ⟨b, o, e, h1, h2⟩
  have hP : Pz z (z + 1) b o L w V := ⟨bR.below hb, bN.below hb, hr, hbl, hB.trans (hb.mono hB.size), hzB⟩
  clear bR bN hb hr hbl hB hS hzB
  have hb0 : L[0]? = some b0 := by rw [hR]; rfl
  have hmr := many_run
  have hw0 : bL b0 = (cutL (bL s)).1 := by
    rw [hR, words_RL] at hLw
    exact (List.cons.inj hLw).1
  obtain rfl : b0 = kB 2 := bL_kB (hw0.trans hk.symm)
  have HL : Hid (wordsL 4 (bL s) = kindW 2 :: R.map bL) := by show _ = _; rw [← hLw, hR]; rfl
  clear hw0 hls
  by_cases hn : R.length + 1 = 3
  · obtain ⟨b1, b2, rfl⟩ : ∃ b1 b2, R = [b1, b2] := by
      match R, hn with
      | [b1, b2], _ => exact ⟨b1, b2, rfl⟩
    subst hR
    rw [show (kB 2 :: [b1, b2] : List ByteArray).length = 3 from rfl]
    replace HL : Hid (wordsL 4 (bL s) = [kindW 2, bL b1, bL b2]) := by show _ = _; rw [HL.out]; rfl
    have hzb1 : b1.size ≤ 140737488355328 := by
      have := wordsL_len 4 (bL s) (bL b1) (by rw [HL.out]; simp)
      rw [bL_len, bL_len] at this
      omega
    have hzb2 : b2.size ≤ 140737488355328 := by
      have := wordsL_len 4 (bL s) (bL b2) (by rw [HL.out]; simp)
      rw [bL_len, bL_len] at this
      omega
    clear hLw hn
    go_upto_region 3 with fail
    try simp only [Act.put, List.setIfInBounds_toArray, List.set_cons_zero, List.set_cons_succ]
    refine wp_region_held_drew (S := fun v => Below V.heap.size V v) (by kernel_rfl) ((Below.refl _ _).drew) (fun hHeld => ?_)
    refine tkQ 1 hHeld ?_
    try simp only [yy]
    refine tkQ 2 hHeld ?_
    try simp only [yy]
    refine tkH 3 (v := ?v23) rfl (by kernel_rfl) (fun _ _ _ h => h) (Or.inl ⟨by rfl, ?hy23⟩) hHeld ?rest23
    case hy23 => (intro w hSw; have hc : World.cell? _ ⟨b, o, none⟩ = some (.string (kB 2)) := (hP.next hSw).cell0 _ hb0; clear hSw; go_simp; try with_reducible rfl)
    try simp only [yy]
    refine rd1 0 (fun K hK => ?_)
    go_simp
    go_wp2_with (refine (rkinds_ok _).mono ?_; rintro r u1 ⟨⟨gk, rfl, hKi⟩, hb⟩)
    refine hK.out _ _ (below_next hHeld hb) (fun hHeld => ?_)
    clear hK K hb
    refine rd1 4 (fun K hK => ?_)
    go_simp
    go_wp2_with (refine (rat_kind 2 (by decide) _ _ hKi).mono ?_; rintro r u2 ⟨rfl, rfl⟩)
    refine hK.out _ _ hHeld (fun hHeld => ?_)
    clear hK K 
    refine tkQ 5 hHeld ?_
    try simp only [yy]
    refine wpAnyH_done (by kernel_rfl) ?_ _
    replace hP := hP.next hHeld
    clear hHeld hKi
    rename World => V1
    have bM := blk_new V1 #[.int .i64 1, .int .i64 2, .int .i64 3, .int .i64 3, .int .i64 3, .int .i64 3, .int .i64 5] 3
    have hb := below_box V1 (.cells #[.int .i64 1, .int .i64 2, .int .i64 3, .int .i64 3, .int .i64 3, .int .i64 3, .int .i64 5] 3)
    replace hP := hP.next hb
    clear hb
    have hcm : (V1.alloc (.cells #[.int .i64 1, .int .i64 2, .int .i64 3, .int .i64 3, .int .i64 3, .int .i64 3, .int .i64 5] 3)).cell? ⟨V1.heap.size, 2, none⟩ = some (.int .i64 3) := bM.cell 2 _ rfl
    go_upto_region 7 with fail
    try simp only [Act.put, List.setIfInBounds_toArray, List.set_cons_zero, List.set_cons_succ]
    generalize V1.alloc (Obj.cells #[.int .i64 1, .int .i64 2, .int .i64 3, .int .i64 3, .int .i64 3, .int .i64 3, .int .i64 5] 3) = V2 at hP ⊢
    clear bM hcm
    have bC := blk_new V2 (Ca.mk (2) (0) (0) (0) (0) (0) (noT)).arr 24
    have hb := below_box V2 (.cells (Ca.mk (2) (0) (0) (0) (0) (0) (noT)).arr 24)
    have hy1 : z < V2.heap.size := hP.r.lt
    have hy2 : z + 1 < V2.heap.size := hP.n.lt
    have hy3 : b < V2.heap.size := hP.bl
    replace hP := hP.next hb
    clear hb
    go_upto_region 8 with (go_big_may; first | refine alloc_zero zeroCa rfl rfl ?_ | refine store_new rfl 24 _ _ rfl (cells := (Ca.mk (2) (0) (0) (0) (0) (0) (noT)).arr) rfl rfl sizeCa rfl (Ca.arr_one _) ?_)
    try simp only [Act.put, List.setIfInBounds_toArray, List.set_cons_zero, List.set_cons_succ]
    generalize V2.alloc (Obj.cells (Ca.mk (2) (0) (0) (0) (0) (0) (noT)).arr 24) = V3 at bC hP ⊢
    obtain ⟨y, hy⟩ : ∃ y, Hid (V2.heap.size = y) := ⟨_, rfl⟩
    rw [hy.out] at bC hy1 hy2 hy3 ⊢
    have hc1 : V3.cell? ⟨b, o + 1, none⟩ = some (.string b1) := hP.cell 1 b1 rfl
    go_wp2_with fail
    refine (rnum_ok b1 (by omega) _).mono ?_
    rintro e V4 ⟨⟨v1, is1, rfl, hn1⟩, rfl⟩
    cases is1 with
    | false =>
      rw [if_neg (by decide)] at hn1
      have HN := (show Hid (NumO (bL b1) none) from hn1)
      clear hn1
      go_wp2_with (first | refine load_blk rfl 24 _ rfl hP.n rfl Tryd.underlying24 rfl sizeCa ?_ | (refine store_part rfl 24 _ _ rfl (off := 0) (cells := Ca.zero.arr) hP.r rfl rfl sizeCa (show 0 + 7 ≤ 7 by decide) (Ca.arr_one _) ?_; intro w9 b9 k9))
      rw [putAt_all Ca.zero.arr Ca.zero.arr rfl] at b9
      exact bodyPost_ret (w := w9) (v := .tuple #[.agg Ca.zero.arr, .int .i64 210]) (ret_two rfl rfl b9 Tryd.underlying24 rfl sizeCa rfl) rfl ⟨⟨none, IsCall_of (by rw [HL.out]; exact w_num (by decide) (by decide) HN.out), rfl⟩, hP.b.trans (k9.below1 hP.z0 hP.b.size)⟩
    | true =>
      rw [if_pos rfl] at hn1
      have HN1 := (show Hid (NumO (bL b1) (some v1)) from hn1)
      clear hn1
      go_wp2_with (refine store_one rfl 22 _ _ rfl (off := 1) (.int .u64 (v1 : Int)) bC rfl rfl rfl rfl size_u64 (show 1 + 1 ≤ 7 by decide) ?_; intro w1 bC1 kC1; have hP1 := hP.kp kC1 hy1 hy2 hy3; have hc2 : _ = some (Value.string b2) := hP1.cell 2 b2 rfl)
      refine (rdig_ok b2 1 (by decide) _).mono ?_
      rintro e V5 ⟨⟨v2, is2, rfl, hd2, hd3⟩, rfl⟩
      cases is2 with
      | false =>
        have HN2 := (show Hid (∀ n, 1 ≤ n → n ≤ 7 → digs n ≠ bL b2) from hd3 rfl)
        clear hd2 hd3
        go_wp2_with (first | (refine store_one rfl 3 _ _ rfl (off := 3) (.int .i64 (v2 : Int)) bC1 rfl rfl rfl rfl size_i64 (show 3 + 1 ≤ 7 by decide) ?_; intro w2 bC2 kC2; have hP2 := hP1.kp kC2 hy1 hy2 hy3) | refine load_blk rfl 24 _ rfl hP2.n rfl Tryd.underlying24 rfl sizeCa ?_ | (refine store_part rfl 24 _ _ rfl (off := 0) (cells := Ca.zero.arr) hP2.r rfl rfl sizeCa (show 0 + 7 ≤ 7 by decide) (Ca.arr_one _) ?_; intro w9 b9 k9))
        rw [putAt_all Ca.zero.arr Ca.zero.arr rfl] at b9
        exact bodyPost_ret (w := w9) (v := .tuple #[.agg Ca.zero.arr, .int .i64 210]) (ret_two rfl rfl b9 Tryd.underlying24 rfl sizeCa rfl) rfl ⟨⟨none, IsCall_of (by rw [HL.out]; exact w_give (HN2.out)), rfl⟩, hP2.b.trans (k9.below1 hP2.z0 hP2.b.size)⟩
      | true =>
        have HN2 := (show Hid (1 ≤ v2 ∧ v2 ≤ 7 ∧ digs v2 = bL b2) from hd2 rfl)
        clear hd2 hd3
        go_wp2_with (first | (refine store_one rfl 3 _ _ rfl (off := 3) (.int .i64 (v2 : Int)) bC1 rfl rfl rfl rfl size_i64 (show 3 + 1 ≤ 7 by decide) ?_; intro w2 bC2 kC2; have hP2 := hP1.kp kC2 hy1 hy2 hy3) | refine load_blk rfl 24 _ rfl bC2 rfl Tryd.underlying24 rfl sizeCa ?_ | (refine store_part rfl 24 _ _ rfl (off := 0) (cells := (Ca.mk (2) (v1) (0) (v2) (0) (0) (noT)).arr) hP2.r rfl rfl sizeCa (show 0 + 7 ≤ 7 by decide) (Ca.arr_one _) ?_; intro w9 b9 k9))
        rw [show putAt Ca.zero.arr 0 (Ca.mk (2) (v1) (0) (v2) (0) (0) (noT)).arr.toList = (Ca.mk (2) (v1) (0) (v2) (0) (0) (noT)).arr from putAt_all _ _ rfl] at b9
        exact bodyPost_ret (w := w9) (v := .tuple #[.agg (Ca.mk (2) (v1) (0) (v2) (0) (0) (noT)).arr, .int .i64 0]) (ret_two rfl rfl b9 Tryd.underlying24 rfl sizeCa rfl) rfl ⟨⟨some (Ca.mk (2) (v1) (0) (v2) (0) (0) (noT)), IsCall_of (by rw [HL.out]; exact w_ok2 HN1.out HN2.out.1 HN2.out.2.1 HN2.out.2.2), rfl⟩, hP2.b.trans (k9.below1 hP2.z0 hP2.b.size)⟩
  · have HN : Hid (R.length + 1 ≠ 3) := hn
    obtain ⟨nL, hnL⟩ : ∃ n, Hid (L.length = n) := ⟨_, rfl⟩
    have hnp : 0 < nL := by rw [← hnL.out, hR]; simp
    have e1 : ((nL : Int) != 3) = true := by
      have : nL ≠ 3 := by rw [← hnL.out, hR]; simpa using hn
      simp; omega
    rw [hnL.out]
    clear hn hR hLw
    go_upto_region 3 with fail
    try simp only [Act.put, List.setIfInBounds_toArray, List.set_cons_zero, List.set_cons_succ]
    refine wp_region_held_drew (S := fun v => Below V.heap.size V v) (by kernel_rfl) ((Below.refl _ _).drew) (fun hHeld => ?_)
    refine tkQ 1 hHeld ?_
    try simp only [yy]
    refine tkQ 2 hHeld ?_
    try simp only [yy]
    refine tkH 3 (v := ?v19) rfl (by kernel_rfl) (fun _ _ _ h => h) (Or.inl ⟨by rfl, ?hy19⟩) hHeld ?rest19
    case hy19 => (intro w hSw; have hc : World.cell? _ ⟨b, o, none⟩ = some (.string (kB 2)) := (hP.next hSw).cell0 _ hb0; clear hSw; go_simp; try with_reducible rfl)
    try simp only [yy]
    refine rd1 0 (fun K hK => ?_)
    go_simp
    go_wp2_with (refine (rkinds_ok _).mono ?_; rintro r u1 ⟨⟨gk, rfl, hKi⟩, hb⟩)
    refine hK.out _ _ (below_next hHeld hb) (fun hHeld => ?_)
    clear hK K hb
    refine rd1 4 (fun K hK => ?_)
    go_simp
    go_wp2_with (refine (rat_kind 2 (by decide) _ _ hKi).mono ?_; rintro r u2 ⟨rfl, rfl⟩)
    refine hK.out _ _ hHeld (fun hHeld => ?_)
    clear hK K 
    refine tkQ 5 hHeld ?_
    try simp only [yy]
    refine wpAnyH_done (by kernel_rfl) ?_ _
    replace hP := hP.next hHeld
    clear hHeld hKi
    rename World => V1
    have bM := blk_new V1 #[.int .i64 1, .int .i64 2, .int .i64 3, .int .i64 3, .int .i64 3, .int .i64 3, .int .i64 5] 3
    have hb := below_box V1 (.cells #[.int .i64 1, .int .i64 2, .int .i64 3, .int .i64 3, .int .i64 3, .int .i64 3, .int .i64 5] 3)
    replace hP := hP.next hb
    clear hb
    have hcm : (V1.alloc (.cells #[.int .i64 1, .int .i64 2, .int .i64 3, .int .i64 3, .int .i64 3, .int .i64 3, .int .i64 5] 3)).cell? ⟨V1.heap.size, 2, none⟩ = some (.int .i64 3) := bM.cell 2 _ rfl
    go_wp2_with (first | refine load_blk rfl 24 _ rfl hP.n rfl Tryd.underlying24 rfl sizeCa ?_ | (refine store_part rfl 24 _ _ rfl (off := 0) (cells := Ca.zero.arr) hP.r rfl rfl sizeCa (show 0 + 7 ≤ 7 by decide) (Ca.arr_one _) ?_; intro w9 b9 k9))
    rw [putAt_all Ca.zero.arr Ca.zero.arr rfl] at b9
    exact bodyPost_ret (w := w9) (v := .tuple #[.agg Ca.zero.arr, .int .i64 210]) (ret_two rfl rfl b9 Tryd.underlying24 rfl sizeCa rfl) rfl ⟨⟨none, IsCall_of (by rw [HL.out]; exact w_len (by decide) (by simpa [manyC] using HN.out)), rfl⟩, hP.b.trans (k9.below1 hP.z0 hP.b.size)⟩

set_option maxHeartbeats 16000000 in
theorem rparse3 (s : ByteArray) (hs : s.size ≤ 140737488355328) (w : World) (hk : kindW 3 = (cutL (bL s)).1) : Calls Tryd.prog 9 #[.string s] w (RParse s w) := by
  have bR := blk_new w Ca.zero.arr 24
  have hB := below_box w (.cells Ca.zero.arr 24)
  have bN := blk_new (w.alloc (.cells Ca.zero.arr 24)) Ca.zero.arr 24
  replace bR := bR.alloc (.cells Ca.zero.arr 24)
  replace hB := hB.alloc hB.size (.cells Ca.zero.arr 24)
  rw [alloc_size] at bN
  have hls := bL_len s
  go_enter Tryd.func9, Tryd.ntmps9
  go_upto_region 2 with (go_big_may; first | refine build_zero builtCa rfl rfl ?_ | refine alloc_zero zeroCa rfl rfl ?_ | refine store_new rfl 24 _ _ rfl (cells := Ca.zero.arr) rfl rfl sizeCa rfl (Ca.arr_one _) ?_)
  try simp only [Act.put, List.setIfInBounds_toArray, List.set_cons_zero, List.set_cons_succ, alloc_size]
  generalize (w.alloc (Obj.cells Ca.zero.arr 24)).alloc (Obj.cells Ca.zero.arr 24) = W at bR bN hB ⊢
  obtain ⟨z, hz⟩ : ∃ z, Hid (w.heap.size = z) := ⟨_, rfl⟩
  have hzB : w.heap.size ≤ z := by rw [hz.out]; exact Nat.le_refl _
  rw [hz.out] at bR bN ⊢
  have pw := rwords_ok s hs 4 (by omega) W
  go_wp2_with fail
  refine pw.mono ?_
  clear pw
  rintro e V ⟨⟨a, L, lc, rfl, hLw, hS⟩, hb⟩
  obtain ⟨b0, R, hR⟩ : ∃ b0 R, L = b0 :: R := by
    obtain ⟨x, q, hq⟩ := wordsL_ne 4 (bL s)
    cases L with
    | nil => rw [hq] at hLw; cases hLw
    | cons b R => exact ⟨b, R, rfl⟩
  obtain ⟨b, o, rfl, hbl, hr⟩ : ∃ b o, a = some ⟨b, o, none⟩ ∧ b < V.heap.size ∧ V.rangeAt b o (flat sv1 L) := by
    rcases hS with h | ⟨b, o, e, _, h1, h2⟩
    · rw [hR] at h; cases h
    · exact ⟨b, o, e, h1, h2⟩
  have hP : Pz z (z + 1) b o L w V := ⟨bR.below hb, bN.below hb, hr, hbl, hB.trans (hb.mono hB.size), hzB⟩
  clear bR bN hb hr hbl hB hS hzB
  have hb0 : L[0]? = some b0 := by rw [hR]; rfl
  have hmr := many_run
  have hw0 : bL b0 = (cutL (bL s)).1 := by
    rw [hR, words_RL] at hLw
    exact (List.cons.inj hLw).1
  obtain rfl : b0 = kB 3 := bL_kB (hw0.trans hk.symm)
  have HL : Hid (wordsL 4 (bL s) = kindW 3 :: R.map bL) := by show _ = _; rw [← hLw, hR]; rfl
  clear hw0 hls
  by_cases hn : R.length + 1 = 3
  · obtain ⟨b1, b2, rfl⟩ : ∃ b1 b2, R = [b1, b2] := by
      match R, hn with
      | [b1, b2], _ => exact ⟨b1, b2, rfl⟩
    subst hR
    rw [show (kB 3 :: [b1, b2] : List ByteArray).length = 3 from rfl]
    replace HL : Hid (wordsL 4 (bL s) = [kindW 3, bL b1, bL b2]) := by show _ = _; rw [HL.out]; rfl
    have hzb1 : b1.size ≤ 140737488355328 := by
      have := wordsL_len 4 (bL s) (bL b1) (by rw [HL.out]; simp)
      rw [bL_len, bL_len] at this
      omega
    have hzb2 : b2.size ≤ 140737488355328 := by
      have := wordsL_len 4 (bL s) (bL b2) (by rw [HL.out]; simp)
      rw [bL_len, bL_len] at this
      omega
    clear hLw hn
    go_upto_region 3 with fail
    try simp only [Act.put, List.setIfInBounds_toArray, List.set_cons_zero, List.set_cons_succ]
    refine wp_region_held_drew (S := fun v => Below V.heap.size V v) (by kernel_rfl) ((Below.refl _ _).drew) (fun hHeld => ?_)
    refine tkQ 1 hHeld ?_
    try simp only [yy]
    refine tkQ 2 hHeld ?_
    try simp only [yy]
    refine tkH 3 (v := ?v31) rfl (by kernel_rfl) (fun _ _ _ h => h) (Or.inl ⟨by rfl, ?hy31⟩) hHeld ?rest31
    case hy31 => (intro w hSw; have hc : World.cell? _ ⟨b, o, none⟩ = some (.string (kB 3)) := (hP.next hSw).cell0 _ hb0; clear hSw; go_simp; try with_reducible rfl)
    try simp only [yy]
    refine rd1 0 (fun K hK => ?_)
    go_simp
    go_wp2_with (refine (rkinds_ok _).mono ?_; rintro r u1 ⟨⟨gk, rfl, hKi⟩, hb⟩)
    refine hK.out _ _ (below_next hHeld hb) (fun hHeld => ?_)
    clear hK K hb
    refine rd1 4 (fun K hK => ?_)
    go_simp
    go_wp2_with (refine (rat_kind 3 (by decide) _ _ hKi).mono ?_; rintro r u2 ⟨rfl, rfl⟩)
    refine hK.out _ _ hHeld (fun hHeld => ?_)
    clear hK K 
    refine tkQ 5 hHeld ?_
    try simp only [yy]
    refine wpAnyH_done (by kernel_rfl) ?_ _
    replace hP := hP.next hHeld
    clear hHeld hKi
    rename World => V1
    have bM := blk_new V1 #[.int .i64 1, .int .i64 2, .int .i64 3, .int .i64 3, .int .i64 3, .int .i64 3, .int .i64 5] 3
    have hb := below_box V1 (.cells #[.int .i64 1, .int .i64 2, .int .i64 3, .int .i64 3, .int .i64 3, .int .i64 3, .int .i64 5] 3)
    replace hP := hP.next hb
    clear hb
    have hcm : (V1.alloc (.cells #[.int .i64 1, .int .i64 2, .int .i64 3, .int .i64 3, .int .i64 3, .int .i64 3, .int .i64 5] 3)).cell? ⟨V1.heap.size, 3, none⟩ = some (.int .i64 3) := bM.cell 3 _ rfl
    go_upto_region 7 with fail
    try simp only [Act.put, List.setIfInBounds_toArray, List.set_cons_zero, List.set_cons_succ]
    generalize V1.alloc (Obj.cells #[.int .i64 1, .int .i64 2, .int .i64 3, .int .i64 3, .int .i64 3, .int .i64 3, .int .i64 5] 3) = V2 at hP ⊢
    clear bM hcm
    have bC := blk_new V2 (Ca.mk (3) (0) (0) (0) (0) (0) (noT)).arr 24
    have hb := below_box V2 (.cells (Ca.mk (3) (0) (0) (0) (0) (0) (noT)).arr 24)
    have hy1 : z < V2.heap.size := hP.r.lt
    have hy2 : z + 1 < V2.heap.size := hP.n.lt
    have hy3 : b < V2.heap.size := hP.bl
    replace hP := hP.next hb
    clear hb
    go_upto_region 8 with (go_big_may; first | refine alloc_zero zeroCa rfl rfl ?_ | refine store_new rfl 24 _ _ rfl (cells := (Ca.mk (3) (0) (0) (0) (0) (0) (noT)).arr) rfl rfl sizeCa rfl (Ca.arr_one _) ?_)
    try simp only [Act.put, List.setIfInBounds_toArray, List.set_cons_zero, List.set_cons_succ]
    generalize V2.alloc (Obj.cells (Ca.mk (3) (0) (0) (0) (0) (0) (noT)).arr 24) = V3 at bC hP ⊢
    obtain ⟨y, hy⟩ : ∃ y, Hid (V2.heap.size = y) := ⟨_, rfl⟩
    rw [hy.out] at bC hy1 hy2 hy3 ⊢
    have hc1 : V3.cell? ⟨b, o + 1, none⟩ = some (.string b1) := hP.cell 1 b1 rfl
    go_wp2_with fail
    refine (rnum_ok b1 (by omega) _).mono ?_
    rintro e V4 ⟨⟨v1, is1, rfl, hn1⟩, rfl⟩
    cases is1 with
    | false =>
      rw [if_neg (by decide)] at hn1
      have HN := (show Hid (NumO (bL b1) none) from hn1)
      clear hn1
      go_wp2_with (first | refine load_blk rfl 24 _ rfl hP.n rfl Tryd.underlying24 rfl sizeCa ?_ | (refine store_part rfl 24 _ _ rfl (off := 0) (cells := Ca.zero.arr) hP.r rfl rfl sizeCa (show 0 + 7 ≤ 7 by decide) (Ca.arr_one _) ?_; intro w9 b9 k9))
      rw [putAt_all Ca.zero.arr Ca.zero.arr rfl] at b9
      exact bodyPost_ret (w := w9) (v := .tuple #[.agg Ca.zero.arr, .int .i64 210]) (ret_two rfl rfl b9 Tryd.underlying24 rfl sizeCa rfl) rfl ⟨⟨none, IsCall_of (by rw [HL.out]; exact w_num (by decide) (by decide) HN.out), rfl⟩, hP.b.trans (k9.below1 hP.z0 hP.b.size)⟩
    | true =>
      rw [if_pos rfl] at hn1
      have HN1 := (show Hid (NumO (bL b1) (some v1)) from hn1)
      clear hn1
      go_wp2_with (refine store_one rfl 22 _ _ rfl (off := 1) (.int .u64 (v1 : Int)) bC rfl rfl rfl rfl size_u64 (show 1 + 1 ≤ 7 by decide) ?_; intro w1 bC1 kC1; have hP1 := hP.kp kC1 hy1 hy2 hy3; have hc2 : _ = some (Value.string b2) := hP1.cell 2 b2 rfl)
      refine (rnum_ok b2 (by omega) _).mono ?_
      rintro e V5 ⟨⟨v2, is2, rfl, hn2⟩, rfl⟩
      cases is2 with
      | false =>
        rw [if_neg (by decide)] at hn2
        have HN2 := (show Hid (NumO (bL b2) none) from hn2)
        clear hn2
        go_wp2_with (first | (refine store_one rfl 22 _ _ rfl (off := 2) (.int .u64 (v2 : Int)) bC1 rfl rfl rfl rfl size_u64 (show 2 + 1 ≤ 7 by decide) ?_; intro w2 bC2 kC2; have hP2 := hP1.kp kC2 hy1 hy2 hy3) | refine load_blk rfl 24 _ rfl hP2.n rfl Tryd.underlying24 rfl sizeCa ?_ | (refine store_part rfl 24 _ _ rfl (off := 0) (cells := Ca.zero.arr) hP2.r rfl rfl sizeCa (show 0 + 7 ≤ 7 by decide) (Ca.arr_one _) ?_; intro w9 b9 k9))
        rw [putAt_all Ca.zero.arr Ca.zero.arr rfl] at b9
        exact bodyPost_ret (w := w9) (v := .tuple #[.agg Ca.zero.arr, .int .i64 210]) (ret_two rfl rfl b9 Tryd.underlying24 rfl sizeCa rfl) rfl ⟨⟨none, IsCall_of (by rw [HL.out]; exact w_oth HN2.out), rfl⟩, hP2.b.trans (k9.below1 hP2.z0 hP2.b.size)⟩
      | true =>
        rw [if_pos rfl] at hn2
        have HN2 := (show Hid (NumO (bL b2) (some v2)) from hn2)
        clear hn2
        go_wp2_with (first | (refine store_one rfl 22 _ _ rfl (off := 2) (.int .u64 (v2 : Int)) bC1 rfl rfl rfl rfl size_u64 (show 2 + 1 ≤ 7 by decide) ?_; intro w2 bC2 kC2; have hP2 := hP1.kp kC2 hy1 hy2 hy3) | refine load_blk rfl 24 _ rfl bC2 rfl Tryd.underlying24 rfl sizeCa ?_ | (refine store_part rfl 24 _ _ rfl (off := 0) (cells := (Ca.mk (3) (v1) (v2) (0) (0) (0) (noT)).arr) hP2.r rfl rfl sizeCa (show 0 + 7 ≤ 7 by decide) (Ca.arr_one _) ?_; intro w9 b9 k9))
        rw [show putAt Ca.zero.arr 0 (Ca.mk (3) (v1) (v2) (0) (0) (0) (noT)).arr.toList = (Ca.mk (3) (v1) (v2) (0) (0) (0) (noT)).arr from putAt_all _ _ rfl] at b9
        exact bodyPost_ret (w := w9) (v := .tuple #[.agg (Ca.mk (3) (v1) (v2) (0) (0) (0) (noT)).arr, .int .i64 0]) (ret_two rfl rfl b9 Tryd.underlying24 rfl sizeCa rfl) rfl ⟨⟨some (Ca.mk (3) (v1) (v2) (0) (0) (0) (noT)), IsCall_of (by rw [HL.out]; exact w_ok3 HN1.out HN2.out), rfl⟩, hP2.b.trans (k9.below1 hP2.z0 hP2.b.size)⟩
  · have HN : Hid (R.length + 1 ≠ 3) := hn
    obtain ⟨nL, hnL⟩ : ∃ n, Hid (L.length = n) := ⟨_, rfl⟩
    have hnp : 0 < nL := by rw [← hnL.out, hR]; simp
    have e1 : ((nL : Int) != 3) = true := by
      have : nL ≠ 3 := by rw [← hnL.out, hR]; simpa using hn
      simp; omega
    rw [hnL.out]
    clear hn hR hLw
    go_upto_region 3 with fail
    try simp only [Act.put, List.setIfInBounds_toArray, List.set_cons_zero, List.set_cons_succ]
    refine wp_region_held_drew (S := fun v => Below V.heap.size V v) (by kernel_rfl) ((Below.refl _ _).drew) (fun hHeld => ?_)
    refine tkQ 1 hHeld ?_
    try simp only [yy]
    refine tkQ 2 hHeld ?_
    try simp only [yy]
    refine tkH 3 (v := ?v27) rfl (by kernel_rfl) (fun _ _ _ h => h) (Or.inl ⟨by rfl, ?hy27⟩) hHeld ?rest27
    case hy27 => (intro w hSw; have hc : World.cell? _ ⟨b, o, none⟩ = some (.string (kB 3)) := (hP.next hSw).cell0 _ hb0; clear hSw; go_simp; try with_reducible rfl)
    try simp only [yy]
    refine rd1 0 (fun K hK => ?_)
    go_simp
    go_wp2_with (refine (rkinds_ok _).mono ?_; rintro r u1 ⟨⟨gk, rfl, hKi⟩, hb⟩)
    refine hK.out _ _ (below_next hHeld hb) (fun hHeld => ?_)
    clear hK K hb
    refine rd1 4 (fun K hK => ?_)
    go_simp
    go_wp2_with (refine (rat_kind 3 (by decide) _ _ hKi).mono ?_; rintro r u2 ⟨rfl, rfl⟩)
    refine hK.out _ _ hHeld (fun hHeld => ?_)
    clear hK K 
    refine tkQ 5 hHeld ?_
    try simp only [yy]
    refine wpAnyH_done (by kernel_rfl) ?_ _
    replace hP := hP.next hHeld
    clear hHeld hKi
    rename World => V1
    have bM := blk_new V1 #[.int .i64 1, .int .i64 2, .int .i64 3, .int .i64 3, .int .i64 3, .int .i64 3, .int .i64 5] 3
    have hb := below_box V1 (.cells #[.int .i64 1, .int .i64 2, .int .i64 3, .int .i64 3, .int .i64 3, .int .i64 3, .int .i64 5] 3)
    replace hP := hP.next hb
    clear hb
    have hcm : (V1.alloc (.cells #[.int .i64 1, .int .i64 2, .int .i64 3, .int .i64 3, .int .i64 3, .int .i64 3, .int .i64 5] 3)).cell? ⟨V1.heap.size, 3, none⟩ = some (.int .i64 3) := bM.cell 3 _ rfl
    go_wp2_with (first | refine load_blk rfl 24 _ rfl hP.n rfl Tryd.underlying24 rfl sizeCa ?_ | (refine store_part rfl 24 _ _ rfl (off := 0) (cells := Ca.zero.arr) hP.r rfl rfl sizeCa (show 0 + 7 ≤ 7 by decide) (Ca.arr_one _) ?_; intro w9 b9 k9))
    rw [putAt_all Ca.zero.arr Ca.zero.arr rfl] at b9
    exact bodyPost_ret (w := w9) (v := .tuple #[.agg Ca.zero.arr, .int .i64 210]) (ret_two rfl rfl b9 Tryd.underlying24 rfl sizeCa rfl) rfl ⟨⟨none, IsCall_of (by rw [HL.out]; exact w_len (by decide) (by simpa [manyC] using HN.out)), rfl⟩, hP.b.trans (k9.below1 hP.z0 hP.b.size)⟩

set_option maxHeartbeats 16000000 in
theorem rparse4 (s : ByteArray) (hs : s.size ≤ 140737488355328) (w : World) (hk : kindW 4 = (cutL (bL s)).1) : Calls Tryd.prog 9 #[.string s] w (RParse s w) := by
  have bR := blk_new w Ca.zero.arr 24
  have hB := below_box w (.cells Ca.zero.arr 24)
  have bN := blk_new (w.alloc (.cells Ca.zero.arr 24)) Ca.zero.arr 24
  replace bR := bR.alloc (.cells Ca.zero.arr 24)
  replace hB := hB.alloc hB.size (.cells Ca.zero.arr 24)
  rw [alloc_size] at bN
  have hls := bL_len s
  go_enter Tryd.func9, Tryd.ntmps9
  go_upto_region 2 with (go_big_may; first | refine build_zero builtCa rfl rfl ?_ | refine alloc_zero zeroCa rfl rfl ?_ | refine store_new rfl 24 _ _ rfl (cells := Ca.zero.arr) rfl rfl sizeCa rfl (Ca.arr_one _) ?_)
  try simp only [Act.put, List.setIfInBounds_toArray, List.set_cons_zero, List.set_cons_succ, alloc_size]
  generalize (w.alloc (Obj.cells Ca.zero.arr 24)).alloc (Obj.cells Ca.zero.arr 24) = W at bR bN hB ⊢
  obtain ⟨z, hz⟩ : ∃ z, Hid (w.heap.size = z) := ⟨_, rfl⟩
  have hzB : w.heap.size ≤ z := by rw [hz.out]; exact Nat.le_refl _
  rw [hz.out] at bR bN ⊢
  have pw := rwords_ok s hs 4 (by omega) W
  go_wp2_with fail
  refine pw.mono ?_
  clear pw
  rintro e V ⟨⟨a, L, lc, rfl, hLw, hS⟩, hb⟩
  obtain ⟨b0, R, hR⟩ : ∃ b0 R, L = b0 :: R := by
    obtain ⟨x, q, hq⟩ := wordsL_ne 4 (bL s)
    cases L with
    | nil => rw [hq] at hLw; cases hLw
    | cons b R => exact ⟨b, R, rfl⟩
  obtain ⟨b, o, rfl, hbl, hr⟩ : ∃ b o, a = some ⟨b, o, none⟩ ∧ b < V.heap.size ∧ V.rangeAt b o (flat sv1 L) := by
    rcases hS with h | ⟨b, o, e, _, h1, h2⟩
    · rw [hR] at h; cases h
    · exact ⟨b, o, e, h1, h2⟩
  have hP : Pz z (z + 1) b o L w V := ⟨bR.below hb, bN.below hb, hr, hbl, hB.trans (hb.mono hB.size), hzB⟩
  clear bR bN hb hr hbl hB hS hzB
  have hb0 : L[0]? = some b0 := by rw [hR]; rfl
  have hmr := many_run
  have hw0 : bL b0 = (cutL (bL s)).1 := by
    rw [hR, words_RL] at hLw
    exact (List.cons.inj hLw).1
  obtain rfl : b0 = kB 4 := bL_kB (hw0.trans hk.symm)
  have HL : Hid (wordsL 4 (bL s) = kindW 4 :: R.map bL) := by show _ = _; rw [← hLw, hR]; rfl
  clear hw0 hls
  by_cases hn : R.length + 1 = 3
  · obtain ⟨b1, b2, rfl⟩ : ∃ b1 b2, R = [b1, b2] := by
      match R, hn with
      | [b1, b2], _ => exact ⟨b1, b2, rfl⟩
    subst hR
    rw [show (kB 4 :: [b1, b2] : List ByteArray).length = 3 from rfl]
    replace HL : Hid (wordsL 4 (bL s) = [kindW 4, bL b1, bL b2]) := by show _ = _; rw [HL.out]; rfl
    have hzb1 : b1.size ≤ 140737488355328 := by
      have := wordsL_len 4 (bL s) (bL b1) (by rw [HL.out]; simp)
      rw [bL_len, bL_len] at this
      omega
    have hzb2 : b2.size ≤ 140737488355328 := by
      have := wordsL_len 4 (bL s) (bL b2) (by rw [HL.out]; simp)
      rw [bL_len, bL_len] at this
      omega
    clear hLw hn
    go_upto_region 3 with fail
    try simp only [Act.put, List.setIfInBounds_toArray, List.set_cons_zero, List.set_cons_succ]
    refine wp_region_held_drew (S := fun v => Below V.heap.size V v) (by kernel_rfl) ((Below.refl _ _).drew) (fun hHeld => ?_)
    refine tkQ 1 hHeld ?_
    try simp only [yy]
    refine tkQ 2 hHeld ?_
    try simp only [yy]
    refine tkH 3 (v := ?v39) rfl (by kernel_rfl) (fun _ _ _ h => h) (Or.inl ⟨by rfl, ?hy39⟩) hHeld ?rest39
    case hy39 => (intro w hSw; have hc : World.cell? _ ⟨b, o, none⟩ = some (.string (kB 4)) := (hP.next hSw).cell0 _ hb0; clear hSw; go_simp; try with_reducible rfl)
    try simp only [yy]
    refine rd1 0 (fun K hK => ?_)
    go_simp
    go_wp2_with (refine (rkinds_ok _).mono ?_; rintro r u1 ⟨⟨gk, rfl, hKi⟩, hb⟩)
    refine hK.out _ _ (below_next hHeld hb) (fun hHeld => ?_)
    clear hK K hb
    refine rd1 4 (fun K hK => ?_)
    go_simp
    go_wp2_with (refine (rat_kind 4 (by decide) _ _ hKi).mono ?_; rintro r u2 ⟨rfl, rfl⟩)
    refine hK.out _ _ hHeld (fun hHeld => ?_)
    clear hK K 
    refine tkQ 5 hHeld ?_
    try simp only [yy]
    refine wpAnyH_done (by kernel_rfl) ?_ _
    replace hP := hP.next hHeld
    clear hHeld hKi
    rename World => V1
    have bM := blk_new V1 #[.int .i64 1, .int .i64 2, .int .i64 3, .int .i64 3, .int .i64 3, .int .i64 3, .int .i64 5] 3
    have hb := below_box V1 (.cells #[.int .i64 1, .int .i64 2, .int .i64 3, .int .i64 3, .int .i64 3, .int .i64 3, .int .i64 5] 3)
    replace hP := hP.next hb
    clear hb
    have hcm : (V1.alloc (.cells #[.int .i64 1, .int .i64 2, .int .i64 3, .int .i64 3, .int .i64 3, .int .i64 3, .int .i64 5] 3)).cell? ⟨V1.heap.size, 4, none⟩ = some (.int .i64 3) := bM.cell 4 _ rfl
    go_upto_region 7 with fail
    try simp only [Act.put, List.setIfInBounds_toArray, List.set_cons_zero, List.set_cons_succ]
    generalize V1.alloc (Obj.cells #[.int .i64 1, .int .i64 2, .int .i64 3, .int .i64 3, .int .i64 3, .int .i64 3, .int .i64 5] 3) = V2 at hP ⊢
    clear bM hcm
    have bC := blk_new V2 (Ca.mk (4) (0) (0) (0) (0) (0) (noT)).arr 24
    have hb := below_box V2 (.cells (Ca.mk (4) (0) (0) (0) (0) (0) (noT)).arr 24)
    have hy1 : z < V2.heap.size := hP.r.lt
    have hy2 : z + 1 < V2.heap.size := hP.n.lt
    have hy3 : b < V2.heap.size := hP.bl
    replace hP := hP.next hb
    clear hb
    go_upto_region 8 with (go_big_may; first | refine alloc_zero zeroCa rfl rfl ?_ | refine store_new rfl 24 _ _ rfl (cells := (Ca.mk (4) (0) (0) (0) (0) (0) (noT)).arr) rfl rfl sizeCa rfl (Ca.arr_one _) ?_)
    try simp only [Act.put, List.setIfInBounds_toArray, List.set_cons_zero, List.set_cons_succ]
    generalize V2.alloc (Obj.cells (Ca.mk (4) (0) (0) (0) (0) (0) (noT)).arr 24) = V3 at bC hP ⊢
    obtain ⟨y, hy⟩ : ∃ y, Hid (V2.heap.size = y) := ⟨_, rfl⟩
    rw [hy.out] at bC hy1 hy2 hy3 ⊢
    have hc1 : V3.cell? ⟨b, o + 1, none⟩ = some (.string b1) := hP.cell 1 b1 rfl
    go_wp2_with fail
    refine (rnum_ok b1 (by omega) _).mono ?_
    rintro e V4 ⟨⟨v1, is1, rfl, hn1⟩, rfl⟩
    cases is1 with
    | false =>
      rw [if_neg (by decide)] at hn1
      have HN := (show Hid (NumO (bL b1) none) from hn1)
      clear hn1
      go_wp2_with (first | refine load_blk rfl 24 _ rfl hP.n rfl Tryd.underlying24 rfl sizeCa ?_ | (refine store_part rfl 24 _ _ rfl (off := 0) (cells := Ca.zero.arr) hP.r rfl rfl sizeCa (show 0 + 7 ≤ 7 by decide) (Ca.arr_one _) ?_; intro w9 b9 k9))
      rw [putAt_all Ca.zero.arr Ca.zero.arr rfl] at b9
      exact bodyPost_ret (w := w9) (v := .tuple #[.agg Ca.zero.arr, .int .i64 210]) (ret_two rfl rfl b9 Tryd.underlying24 rfl sizeCa rfl) rfl ⟨⟨none, IsCall_of (by rw [HL.out]; exact w_num (by decide) (by decide) HN.out), rfl⟩, hP.b.trans (k9.below1 hP.z0 hP.b.size)⟩
    | true =>
      rw [if_pos rfl] at hn1
      have HN1 := (show Hid (NumO (bL b1) (some v1)) from hn1)
      clear hn1
      go_wp2_with (refine store_one rfl 22 _ _ rfl (off := 1) (.int .u64 (v1 : Int)) bC rfl rfl rfl rfl size_u64 (show 1 + 1 ≤ 7 by decide) ?_; intro w1 bC1 kC1; have hP1 := hP.kp kC1 hy1 hy2 hy3; have hc2 : _ = some (Value.string b2) := hP1.cell 2 b2 rfl)
      refine (rdig_ok b2 0 (by decide) _).mono ?_
      rintro e V5 ⟨⟨v2, is2, rfl, hd2, hd3⟩, rfl⟩
      cases is2 with
      | false =>
        have HN2 := (show Hid (∀ n, 0 ≤ n → n ≤ 7 → digs n ≠ bL b2) from hd3 rfl)
        clear hd2 hd3
        go_wp2_with (first | (refine store_one rfl 3 _ _ rfl (off := 4) (.int .i64 (v2 : Int)) bC1 rfl rfl rfl rfl size_i64 (show 4 + 1 ≤ 7 by decide) ?_; intro w2 bC2 kC2; have hP2 := hP1.kp kC2 hy1 hy2 hy3) | refine load_blk rfl 24 _ rfl hP2.n rfl Tryd.underlying24 rfl sizeCa ?_ | (refine store_part rfl 24 _ _ rfl (off := 0) (cells := Ca.zero.arr) hP2.r rfl rfl sizeCa (show 0 + 7 ≤ 7 by decide) (Ca.arr_one _) ?_; intro w9 b9 k9))
        rw [putAt_all Ca.zero.arr Ca.zero.arr rfl] at b9
        exact bodyPost_ret (w := w9) (v := .tuple #[.agg Ca.zero.arr, .int .i64 210]) (ret_two rfl rfl b9 Tryd.underlying24 rfl sizeCa rfl) rfl ⟨⟨none, IsCall_of (by rw [HL.out]; exact w_grp (by decide) (by decide) (fun n h => HN2.out n (Nat.zero_le _) h)), rfl⟩, hP2.b.trans (k9.below1 hP2.z0 hP2.b.size)⟩
      | true =>
        have HN2 := (show Hid (0 ≤ v2 ∧ v2 ≤ 7 ∧ digs v2 = bL b2) from hd2 rfl)
        clear hd2 hd3
        go_wp2_with (first | (refine store_one rfl 3 _ _ rfl (off := 4) (.int .i64 (v2 : Int)) bC1 rfl rfl rfl rfl size_i64 (show 4 + 1 ≤ 7 by decide) ?_; intro w2 bC2 kC2; have hP2 := hP1.kp kC2 hy1 hy2 hy3) | refine load_blk rfl 24 _ rfl bC2 rfl Tryd.underlying24 rfl sizeCa ?_ | (refine store_part rfl 24 _ _ rfl (off := 0) (cells := (Ca.mk (4) (v1) (0) (0) (v2) (0) (noT)).arr) hP2.r rfl rfl sizeCa (show 0 + 7 ≤ 7 by decide) (Ca.arr_one _) ?_; intro w9 b9 k9))
        rw [show putAt Ca.zero.arr 0 (Ca.mk (4) (v1) (0) (0) (v2) (0) (noT)).arr.toList = (Ca.mk (4) (v1) (0) (0) (v2) (0) (noT)).arr from putAt_all _ _ rfl] at b9
        exact bodyPost_ret (w := w9) (v := .tuple #[.agg (Ca.mk (4) (v1) (0) (0) (v2) (0) (noT)).arr, .int .i64 0]) (ret_two rfl rfl b9 Tryd.underlying24 rfl sizeCa rfl) rfl ⟨⟨some (Ca.mk (4) (v1) (0) (0) (v2) (0) (noT)), IsCall_of (by rw [HL.out]; exact w_ok4 HN1.out HN2.out.2.1 HN2.out.2.2), rfl⟩, hP2.b.trans (k9.below1 hP2.z0 hP2.b.size)⟩
  · have HN : Hid (R.length + 1 ≠ 3) := hn
    obtain ⟨nL, hnL⟩ : ∃ n, Hid (L.length = n) := ⟨_, rfl⟩
    have hnp : 0 < nL := by rw [← hnL.out, hR]; simp
    have e1 : ((nL : Int) != 3) = true := by
      have : nL ≠ 3 := by rw [← hnL.out, hR]; simpa using hn
      simp; omega
    rw [hnL.out]
    clear hn hR hLw
    go_upto_region 3 with fail
    try simp only [Act.put, List.setIfInBounds_toArray, List.set_cons_zero, List.set_cons_succ]
    refine wp_region_held_drew (S := fun v => Below V.heap.size V v) (by kernel_rfl) ((Below.refl _ _).drew) (fun hHeld => ?_)
    refine tkQ 1 hHeld ?_
    try simp only [yy]
    refine tkQ 2 hHeld ?_
    try simp only [yy]
    refine tkH 3 (v := ?v35) rfl (by kernel_rfl) (fun _ _ _ h => h) (Or.inl ⟨by rfl, ?hy35⟩) hHeld ?rest35
    case hy35 => (intro w hSw; have hc : World.cell? _ ⟨b, o, none⟩ = some (.string (kB 4)) := (hP.next hSw).cell0 _ hb0; clear hSw; go_simp; try with_reducible rfl)
    try simp only [yy]
    refine rd1 0 (fun K hK => ?_)
    go_simp
    go_wp2_with (refine (rkinds_ok _).mono ?_; rintro r u1 ⟨⟨gk, rfl, hKi⟩, hb⟩)
    refine hK.out _ _ (below_next hHeld hb) (fun hHeld => ?_)
    clear hK K hb
    refine rd1 4 (fun K hK => ?_)
    go_simp
    go_wp2_with (refine (rat_kind 4 (by decide) _ _ hKi).mono ?_; rintro r u2 ⟨rfl, rfl⟩)
    refine hK.out _ _ hHeld (fun hHeld => ?_)
    clear hK K 
    refine tkQ 5 hHeld ?_
    try simp only [yy]
    refine wpAnyH_done (by kernel_rfl) ?_ _
    replace hP := hP.next hHeld
    clear hHeld hKi
    rename World => V1
    have bM := blk_new V1 #[.int .i64 1, .int .i64 2, .int .i64 3, .int .i64 3, .int .i64 3, .int .i64 3, .int .i64 5] 3
    have hb := below_box V1 (.cells #[.int .i64 1, .int .i64 2, .int .i64 3, .int .i64 3, .int .i64 3, .int .i64 3, .int .i64 5] 3)
    replace hP := hP.next hb
    clear hb
    have hcm : (V1.alloc (.cells #[.int .i64 1, .int .i64 2, .int .i64 3, .int .i64 3, .int .i64 3, .int .i64 3, .int .i64 5] 3)).cell? ⟨V1.heap.size, 4, none⟩ = some (.int .i64 3) := bM.cell 4 _ rfl
    go_wp2_with (first | refine load_blk rfl 24 _ rfl hP.n rfl Tryd.underlying24 rfl sizeCa ?_ | (refine store_part rfl 24 _ _ rfl (off := 0) (cells := Ca.zero.arr) hP.r rfl rfl sizeCa (show 0 + 7 ≤ 7 by decide) (Ca.arr_one _) ?_; intro w9 b9 k9))
    rw [putAt_all Ca.zero.arr Ca.zero.arr rfl] at b9
    exact bodyPost_ret (w := w9) (v := .tuple #[.agg Ca.zero.arr, .int .i64 210]) (ret_two rfl rfl b9 Tryd.underlying24 rfl sizeCa rfl) rfl ⟨⟨none, IsCall_of (by rw [HL.out]; exact w_len (by decide) (by simpa [manyC] using HN.out)), rfl⟩, hP.b.trans (k9.below1 hP.z0 hP.b.size)⟩

set_option maxHeartbeats 16000000 in
theorem rparse5 (s : ByteArray) (hs : s.size ≤ 140737488355328) (w : World) (hk : kindW 5 = (cutL (bL s)).1) : Calls Tryd.prog 9 #[.string s] w (RParse s w) := by
  have bR := blk_new w Ca.zero.arr 24
  have hB := below_box w (.cells Ca.zero.arr 24)
  have bN := blk_new (w.alloc (.cells Ca.zero.arr 24)) Ca.zero.arr 24
  replace bR := bR.alloc (.cells Ca.zero.arr 24)
  replace hB := hB.alloc hB.size (.cells Ca.zero.arr 24)
  rw [alloc_size] at bN
  have hls := bL_len s
  go_enter Tryd.func9, Tryd.ntmps9
  go_upto_region 2 with (go_big_may; first | refine build_zero builtCa rfl rfl ?_ | refine alloc_zero zeroCa rfl rfl ?_ | refine store_new rfl 24 _ _ rfl (cells := Ca.zero.arr) rfl rfl sizeCa rfl (Ca.arr_one _) ?_)
  try simp only [Act.put, List.setIfInBounds_toArray, List.set_cons_zero, List.set_cons_succ, alloc_size]
  generalize (w.alloc (Obj.cells Ca.zero.arr 24)).alloc (Obj.cells Ca.zero.arr 24) = W at bR bN hB ⊢
  obtain ⟨z, hz⟩ : ∃ z, Hid (w.heap.size = z) := ⟨_, rfl⟩
  have hzB : w.heap.size ≤ z := by rw [hz.out]; exact Nat.le_refl _
  rw [hz.out] at bR bN ⊢
  have pw := rwords_ok s hs 4 (by omega) W
  go_wp2_with fail
  refine pw.mono ?_
  clear pw
  rintro e V ⟨⟨a, L, lc, rfl, hLw, hS⟩, hb⟩
  obtain ⟨b0, R, hR⟩ : ∃ b0 R, L = b0 :: R := by
    obtain ⟨x, q, hq⟩ := wordsL_ne 4 (bL s)
    cases L with
    | nil => rw [hq] at hLw; cases hLw
    | cons b R => exact ⟨b, R, rfl⟩
  obtain ⟨b, o, rfl, hbl, hr⟩ : ∃ b o, a = some ⟨b, o, none⟩ ∧ b < V.heap.size ∧ V.rangeAt b o (flat sv1 L) := by
    rcases hS with h | ⟨b, o, e, _, h1, h2⟩
    · rw [hR] at h; cases h
    · exact ⟨b, o, e, h1, h2⟩
  have hP : Pz z (z + 1) b o L w V := ⟨bR.below hb, bN.below hb, hr, hbl, hB.trans (hb.mono hB.size), hzB⟩
  clear bR bN hb hr hbl hB hS hzB
  have hb0 : L[0]? = some b0 := by rw [hR]; rfl
  have hmr := many_run
  have hw0 : bL b0 = (cutL (bL s)).1 := by
    rw [hR, words_RL] at hLw
    exact (List.cons.inj hLw).1
  obtain rfl : b0 = kB 5 := bL_kB (hw0.trans hk.symm)
  have HL : Hid (wordsL 4 (bL s) = kindW 5 :: R.map bL) := by show _ = _; rw [← hLw, hR]; rfl
  clear hw0 hls
  by_cases hn : R.length + 1 = 3
  · obtain ⟨b1, b2, rfl⟩ : ∃ b1 b2, R = [b1, b2] := by
      match R, hn with
      | [b1, b2], _ => exact ⟨b1, b2, rfl⟩
    subst hR
    rw [show (kB 5 :: [b1, b2] : List ByteArray).length = 3 from rfl]
    replace HL : Hid (wordsL 4 (bL s) = [kindW 5, bL b1, bL b2]) := by show _ = _; rw [HL.out]; rfl
    have hzb1 : b1.size ≤ 140737488355328 := by
      have := wordsL_len 4 (bL s) (bL b1) (by rw [HL.out]; simp)
      rw [bL_len, bL_len] at this
      omega
    have hzb2 : b2.size ≤ 140737488355328 := by
      have := wordsL_len 4 (bL s) (bL b2) (by rw [HL.out]; simp)
      rw [bL_len, bL_len] at this
      omega
    clear hLw hn
    go_upto_region 3 with fail
    try simp only [Act.put, List.setIfInBounds_toArray, List.set_cons_zero, List.set_cons_succ]
    refine wp_region_held_drew (S := fun v => Below V.heap.size V v) (by kernel_rfl) ((Below.refl _ _).drew) (fun hHeld => ?_)
    refine tkQ 1 hHeld ?_
    try simp only [yy]
    refine tkQ 2 hHeld ?_
    try simp only [yy]
    refine tkH 3 (v := ?v47) rfl (by kernel_rfl) (fun _ _ _ h => h) (Or.inl ⟨by rfl, ?hy47⟩) hHeld ?rest47
    case hy47 => (intro w hSw; have hc : World.cell? _ ⟨b, o, none⟩ = some (.string (kB 5)) := (hP.next hSw).cell0 _ hb0; clear hSw; go_simp; try with_reducible rfl)
    try simp only [yy]
    refine rd1 0 (fun K hK => ?_)
    go_simp
    go_wp2_with (refine (rkinds_ok _).mono ?_; rintro r u1 ⟨⟨gk, rfl, hKi⟩, hb⟩)
    refine hK.out _ _ (below_next hHeld hb) (fun hHeld => ?_)
    clear hK K hb
    refine rd1 4 (fun K hK => ?_)
    go_simp
    go_wp2_with (refine (rat_kind 5 (by decide) _ _ hKi).mono ?_; rintro r u2 ⟨rfl, rfl⟩)
    refine hK.out _ _ hHeld (fun hHeld => ?_)
    clear hK K 
    refine tkQ 5 hHeld ?_
    try simp only [yy]
    refine wpAnyH_done (by kernel_rfl) ?_ _
    replace hP := hP.next hHeld
    clear hHeld hKi
    rename World => V1
    have bM := blk_new V1 #[.int .i64 1, .int .i64 2, .int .i64 3, .int .i64 3, .int .i64 3, .int .i64 3, .int .i64 5] 3
    have hb := below_box V1 (.cells #[.int .i64 1, .int .i64 2, .int .i64 3, .int .i64 3, .int .i64 3, .int .i64 3, .int .i64 5] 3)
    replace hP := hP.next hb
    clear hb
    have hcm : (V1.alloc (.cells #[.int .i64 1, .int .i64 2, .int .i64 3, .int .i64 3, .int .i64 3, .int .i64 3, .int .i64 5] 3)).cell? ⟨V1.heap.size, 5, none⟩ = some (.int .i64 3) := bM.cell 5 _ rfl
    go_upto_region 7 with fail
    try simp only [Act.put, List.setIfInBounds_toArray, List.set_cons_zero, List.set_cons_succ]
    generalize V1.alloc (Obj.cells #[.int .i64 1, .int .i64 2, .int .i64 3, .int .i64 3, .int .i64 3, .int .i64 3, .int .i64 5] 3) = V2 at hP ⊢
    clear bM hcm
    have bC := blk_new V2 (Ca.mk (5) (0) (0) (0) (0) (0) (noT)).arr 24
    have hb := below_box V2 (.cells (Ca.mk (5) (0) (0) (0) (0) (0) (noT)).arr 24)
    have hy1 : z < V2.heap.size := hP.r.lt
    have hy2 : z + 1 < V2.heap.size := hP.n.lt
    have hy3 : b < V2.heap.size := hP.bl
    replace hP := hP.next hb
    clear hb
    go_upto_region 8 with (go_big_may; first | refine alloc_zero zeroCa rfl rfl ?_ | refine store_new rfl 24 _ _ rfl (cells := (Ca.mk (5) (0) (0) (0) (0) (0) (noT)).arr) rfl rfl sizeCa rfl (Ca.arr_one _) ?_)
    try simp only [Act.put, List.setIfInBounds_toArray, List.set_cons_zero, List.set_cons_succ]
    generalize V2.alloc (Obj.cells (Ca.mk (5) (0) (0) (0) (0) (0) (noT)).arr 24) = V3 at bC hP ⊢
    obtain ⟨y, hy⟩ : ∃ y, Hid (V2.heap.size = y) := ⟨_, rfl⟩
    rw [hy.out] at bC hy1 hy2 hy3 ⊢
    have hc1 : V3.cell? ⟨b, o + 1, none⟩ = some (.string b1) := hP.cell 1 b1 rfl
    go_wp2_with fail
    refine (rnum_ok b1 (by omega) _).mono ?_
    rintro e V4 ⟨⟨v1, is1, rfl, hn1⟩, rfl⟩
    cases is1 with
    | false =>
      rw [if_neg (by decide)] at hn1
      have HN := (show Hid (NumO (bL b1) none) from hn1)
      clear hn1
      go_wp2_with (first | refine load_blk rfl 24 _ rfl hP.n rfl Tryd.underlying24 rfl sizeCa ?_ | (refine store_part rfl 24 _ _ rfl (off := 0) (cells := Ca.zero.arr) hP.r rfl rfl sizeCa (show 0 + 7 ≤ 7 by decide) (Ca.arr_one _) ?_; intro w9 b9 k9))
      rw [putAt_all Ca.zero.arr Ca.zero.arr rfl] at b9
      exact bodyPost_ret (w := w9) (v := .tuple #[.agg Ca.zero.arr, .int .i64 210]) (ret_two rfl rfl b9 Tryd.underlying24 rfl sizeCa rfl) rfl ⟨⟨none, IsCall_of (by rw [HL.out]; exact w_num (by decide) (by decide) HN.out), rfl⟩, hP.b.trans (k9.below1 hP.z0 hP.b.size)⟩
    | true =>
      rw [if_pos rfl] at hn1
      have HN1 := (show Hid (NumO (bL b1) (some v1)) from hn1)
      clear hn1
      go_wp2_with (refine store_one rfl 22 _ _ rfl (off := 1) (.int .u64 (v1 : Int)) bC rfl rfl rfl rfl size_u64 (show 1 + 1 ≤ 7 by decide) ?_; intro w1 bC1 kC1; have hP1 := hP.kp kC1 hy1 hy2 hy3; have hc2 : _ = some (Value.string b2) := hP1.cell 2 b2 rfl)
      refine (rdig_ok b2 0 (by decide) _).mono ?_
      rintro e V5 ⟨⟨v2, is2, rfl, hd2, hd3⟩, rfl⟩
      cases is2 with
      | false =>
        have HN2 := (show Hid (∀ n, 0 ≤ n → n ≤ 7 → digs n ≠ bL b2) from hd3 rfl)
        clear hd2 hd3
        go_wp2_with (first | (refine store_one rfl 3 _ _ rfl (off := 4) (.int .i64 (v2 : Int)) bC1 rfl rfl rfl rfl size_i64 (show 4 + 1 ≤ 7 by decide) ?_; intro w2 bC2 kC2; have hP2 := hP1.kp kC2 hy1 hy2 hy3) | refine load_blk rfl 24 _ rfl hP2.n rfl Tryd.underlying24 rfl sizeCa ?_ | (refine store_part rfl 24 _ _ rfl (off := 0) (cells := Ca.zero.arr) hP2.r rfl rfl sizeCa (show 0 + 7 ≤ 7 by decide) (Ca.arr_one _) ?_; intro w9 b9 k9))
        rw [putAt_all Ca.zero.arr Ca.zero.arr rfl] at b9
        exact bodyPost_ret (w := w9) (v := .tuple #[.agg Ca.zero.arr, .int .i64 210]) (ret_two rfl rfl b9 Tryd.underlying24 rfl sizeCa rfl) rfl ⟨⟨none, IsCall_of (by rw [HL.out]; exact w_grp (by decide) (by decide) (fun n h => HN2.out n (Nat.zero_le _) h)), rfl⟩, hP2.b.trans (k9.below1 hP2.z0 hP2.b.size)⟩
      | true =>
        have HN2 := (show Hid (0 ≤ v2 ∧ v2 ≤ 7 ∧ digs v2 = bL b2) from hd2 rfl)
        clear hd2 hd3
        go_wp2_with (first | (refine store_one rfl 3 _ _ rfl (off := 4) (.int .i64 (v2 : Int)) bC1 rfl rfl rfl rfl size_i64 (show 4 + 1 ≤ 7 by decide) ?_; intro w2 bC2 kC2; have hP2 := hP1.kp kC2 hy1 hy2 hy3) | refine load_blk rfl 24 _ rfl bC2 rfl Tryd.underlying24 rfl sizeCa ?_ | (refine store_part rfl 24 _ _ rfl (off := 0) (cells := (Ca.mk (5) (v1) (0) (0) (v2) (0) (noT)).arr) hP2.r rfl rfl sizeCa (show 0 + 7 ≤ 7 by decide) (Ca.arr_one _) ?_; intro w9 b9 k9))
        rw [show putAt Ca.zero.arr 0 (Ca.mk (5) (v1) (0) (0) (v2) (0) (noT)).arr.toList = (Ca.mk (5) (v1) (0) (0) (v2) (0) (noT)).arr from putAt_all _ _ rfl] at b9
        exact bodyPost_ret (w := w9) (v := .tuple #[.agg (Ca.mk (5) (v1) (0) (0) (v2) (0) (noT)).arr, .int .i64 0]) (ret_two rfl rfl b9 Tryd.underlying24 rfl sizeCa rfl) rfl ⟨⟨some (Ca.mk (5) (v1) (0) (0) (v2) (0) (noT)), IsCall_of (by rw [HL.out]; exact w_ok5 HN1.out HN2.out.2.1 HN2.out.2.2), rfl⟩, hP2.b.trans (k9.below1 hP2.z0 hP2.b.size)⟩
  · have HN : Hid (R.length + 1 ≠ 3) := hn
    obtain ⟨nL, hnL⟩ : ∃ n, Hid (L.length = n) := ⟨_, rfl⟩
    have hnp : 0 < nL := by rw [← hnL.out, hR]; simp
    have e1 : ((nL : Int) != 3) = true := by
      have : nL ≠ 3 := by rw [← hnL.out, hR]; simpa using hn
      simp; omega
    rw [hnL.out]
    clear hn hR hLw
    go_upto_region 3 with fail
    try simp only [Act.put, List.setIfInBounds_toArray, List.set_cons_zero, List.set_cons_succ]
    refine wp_region_held_drew (S := fun v => Below V.heap.size V v) (by kernel_rfl) ((Below.refl _ _).drew) (fun hHeld => ?_)
    refine tkQ 1 hHeld ?_
    try simp only [yy]
    refine tkQ 2 hHeld ?_
    try simp only [yy]
    refine tkH 3 (v := ?v43) rfl (by kernel_rfl) (fun _ _ _ h => h) (Or.inl ⟨by rfl, ?hy43⟩) hHeld ?rest43
    case hy43 => (intro w hSw; have hc : World.cell? _ ⟨b, o, none⟩ = some (.string (kB 5)) := (hP.next hSw).cell0 _ hb0; clear hSw; go_simp; try with_reducible rfl)
    try simp only [yy]
    refine rd1 0 (fun K hK => ?_)
    go_simp
    go_wp2_with (refine (rkinds_ok _).mono ?_; rintro r u1 ⟨⟨gk, rfl, hKi⟩, hb⟩)
    refine hK.out _ _ (below_next hHeld hb) (fun hHeld => ?_)
    clear hK K hb
    refine rd1 4 (fun K hK => ?_)
    go_simp
    go_wp2_with (refine (rat_kind 5 (by decide) _ _ hKi).mono ?_; rintro r u2 ⟨rfl, rfl⟩)
    refine hK.out _ _ hHeld (fun hHeld => ?_)
    clear hK K 
    refine tkQ 5 hHeld ?_
    try simp only [yy]
    refine wpAnyH_done (by kernel_rfl) ?_ _
    replace hP := hP.next hHeld
    clear hHeld hKi
    rename World => V1
    have bM := blk_new V1 #[.int .i64 1, .int .i64 2, .int .i64 3, .int .i64 3, .int .i64 3, .int .i64 3, .int .i64 5] 3
    have hb := below_box V1 (.cells #[.int .i64 1, .int .i64 2, .int .i64 3, .int .i64 3, .int .i64 3, .int .i64 3, .int .i64 5] 3)
    replace hP := hP.next hb
    clear hb
    have hcm : (V1.alloc (.cells #[.int .i64 1, .int .i64 2, .int .i64 3, .int .i64 3, .int .i64 3, .int .i64 3, .int .i64 5] 3)).cell? ⟨V1.heap.size, 5, none⟩ = some (.int .i64 3) := bM.cell 5 _ rfl
    go_wp2_with (first | refine load_blk rfl 24 _ rfl hP.n rfl Tryd.underlying24 rfl sizeCa ?_ | (refine store_part rfl 24 _ _ rfl (off := 0) (cells := Ca.zero.arr) hP.r rfl rfl sizeCa (show 0 + 7 ≤ 7 by decide) (Ca.arr_one _) ?_; intro w9 b9 k9))
    rw [putAt_all Ca.zero.arr Ca.zero.arr rfl] at b9
    exact bodyPost_ret (w := w9) (v := .tuple #[.agg Ca.zero.arr, .int .i64 210]) (ret_two rfl rfl b9 Tryd.underlying24 rfl sizeCa rfl) rfl ⟨⟨none, IsCall_of (by rw [HL.out]; exact w_len (by decide) (by simpa [manyC] using HN.out)), rfl⟩, hP.b.trans (k9.below1 hP.z0 hP.b.size)⟩

set_option maxHeartbeats 16000000 in
theorem rparse6 (s : ByteArray) (hs : s.size ≤ 140737488355328) (w : World) (hk : kindW 6 = (cutL (bL s)).1) : Calls Tryd.prog 9 #[.string s] w (RParse s w) := by
  have bR := blk_new w Ca.zero.arr 24
  have hB := below_box w (.cells Ca.zero.arr 24)
  have bN := blk_new (w.alloc (.cells Ca.zero.arr 24)) Ca.zero.arr 24
  replace bR := bR.alloc (.cells Ca.zero.arr 24)
  replace hB := hB.alloc hB.size (.cells Ca.zero.arr 24)
  rw [alloc_size] at bN
  have hls := bL_len s
  go_enter Tryd.func9, Tryd.ntmps9
  go_upto_region 2 with (go_big_may; first | refine build_zero builtCa rfl rfl ?_ | refine alloc_zero zeroCa rfl rfl ?_ | refine store_new rfl 24 _ _ rfl (cells := Ca.zero.arr) rfl rfl sizeCa rfl (Ca.arr_one _) ?_)
  try simp only [Act.put, List.setIfInBounds_toArray, List.set_cons_zero, List.set_cons_succ, alloc_size]
  generalize (w.alloc (Obj.cells Ca.zero.arr 24)).alloc (Obj.cells Ca.zero.arr 24) = W at bR bN hB ⊢
  obtain ⟨z, hz⟩ : ∃ z, Hid (w.heap.size = z) := ⟨_, rfl⟩
  have hzB : w.heap.size ≤ z := by rw [hz.out]; exact Nat.le_refl _
  rw [hz.out] at bR bN ⊢
  have pw := rwords_ok s hs 4 (by omega) W
  go_wp2_with fail
  refine pw.mono ?_
  clear pw
  rintro e V ⟨⟨a, L, lc, rfl, hLw, hS⟩, hb⟩
  obtain ⟨b0, R, hR⟩ : ∃ b0 R, L = b0 :: R := by
    obtain ⟨x, q, hq⟩ := wordsL_ne 4 (bL s)
    cases L with
    | nil => rw [hq] at hLw; cases hLw
    | cons b R => exact ⟨b, R, rfl⟩
  obtain ⟨b, o, rfl, hbl, hr⟩ : ∃ b o, a = some ⟨b, o, none⟩ ∧ b < V.heap.size ∧ V.rangeAt b o (flat sv1 L) := by
    rcases hS with h | ⟨b, o, e, _, h1, h2⟩
    · rw [hR] at h; cases h
    · exact ⟨b, o, e, h1, h2⟩
  have hP : Pz z (z + 1) b o L w V := ⟨bR.below hb, bN.below hb, hr, hbl, hB.trans (hb.mono hB.size), hzB⟩
  clear bR bN hb hr hbl hB hS hzB
  have hb0 : L[0]? = some b0 := by rw [hR]; rfl
  have hmr := many_run
  have hw0 : bL b0 = (cutL (bL s)).1 := by
    rw [hR, words_RL] at hLw
    exact (List.cons.inj hLw).1
  obtain rfl : b0 = kB 6 := bL_kB (hw0.trans hk.symm)
  have HL : Hid (wordsL 4 (bL s) = kindW 6 :: R.map bL) := by show _ = _; rw [← hLw, hR]; rfl
  clear hw0 hls
  by_cases hn : R.length + 1 = 5
  · obtain ⟨b1, b2, b3, b4, rfl⟩ : ∃ b1 b2 b3 b4, R = [b1, b2, b3, b4] := by
      match R, hn with
      | [b1, b2, b3, b4], _ => exact ⟨b1, b2, b3, b4, rfl⟩
    subst hR
    rw [show (kB 6 :: [b1, b2, b3, b4] : List ByteArray).length = 5 from rfl]
    replace HL : Hid (wordsL 4 (bL s) = [kindW 6, bL b1, bL b2, bL b3, bL b4]) := by show _ = _; rw [HL.out]; rfl
    have hzb1 : b1.size ≤ 140737488355328 := by
      have := wordsL_len 4 (bL s) (bL b1) (by rw [HL.out]; simp)
      rw [bL_len, bL_len] at this
      omega
    have hzb2 : b2.size ≤ 140737488355328 := by
      have := wordsL_len 4 (bL s) (bL b2) (by rw [HL.out]; simp)
      rw [bL_len, bL_len] at this
      omega
    have hzb3 : b3.size ≤ 140737488355328 := by
      have := wordsL_len 4 (bL s) (bL b3) (by rw [HL.out]; simp)
      rw [bL_len, bL_len] at this
      omega
    have hzb4 : b4.size ≤ 140737488355328 := by
      have := wordsL_len 4 (bL s) (bL b4) (by rw [HL.out]; simp)
      rw [bL_len, bL_len] at this
      omega
    clear hLw hn
    go_upto_region 3 with fail
    try simp only [Act.put, List.setIfInBounds_toArray, List.set_cons_zero, List.set_cons_succ]
    refine wp_region_held_drew (S := fun v => Below V.heap.size V v) (by kernel_rfl) ((Below.refl _ _).drew) (fun hHeld => ?_)
    refine tkQ 1 hHeld ?_
    try simp only [yy]
    refine tkQ 2 hHeld ?_
    try simp only [yy]
    refine tkH 3 (v := ?v59) rfl (by kernel_rfl) (fun _ _ _ h => h) (Or.inl ⟨by rfl, ?hy59⟩) hHeld ?rest59
    case hy59 => (intro w hSw; have hc : World.cell? _ ⟨b, o, none⟩ = some (.string (kB 6)) := (hP.next hSw).cell0 _ hb0; clear hSw; go_simp; try with_reducible rfl)
    try simp only [yy]
    refine rd1 0 (fun K hK => ?_)
    go_simp
    go_wp2_with (refine (rkinds_ok _).mono ?_; rintro r u1 ⟨⟨gk, rfl, hKi⟩, hb⟩)
    refine hK.out _ _ (below_next hHeld hb) (fun hHeld => ?_)
    clear hK K hb
    refine rd1 4 (fun K hK => ?_)
    go_simp
    go_wp2_with (refine (rat_kind 6 (by decide) _ _ hKi).mono ?_; rintro r u2 ⟨rfl, rfl⟩)
    refine hK.out _ _ hHeld (fun hHeld => ?_)
    clear hK K 
    refine tkQ 5 hHeld ?_
    try simp only [yy]
    refine wpAnyH_done (by kernel_rfl) ?_ _
    replace hP := hP.next hHeld
    clear hHeld hKi
    rename World => V1
    have bM := blk_new V1 #[.int .i64 1, .int .i64 2, .int .i64 3, .int .i64 3, .int .i64 3, .int .i64 3, .int .i64 5] 3
    have hb := below_box V1 (.cells #[.int .i64 1, .int .i64 2, .int .i64 3, .int .i64 3, .int .i64 3, .int .i64 3, .int .i64 5] 3)
    replace hP := hP.next hb
    clear hb
    have hcm : (V1.alloc (.cells #[.int .i64 1, .int .i64 2, .int .i64 3, .int .i64 3, .int .i64 3, .int .i64 3, .int .i64 5] 3)).cell? ⟨V1.heap.size, 6, none⟩ = some (.int .i64 5) := bM.cell 6 _ rfl
    go_upto_region 7 with fail
    try simp only [Act.put, List.setIfInBounds_toArray, List.set_cons_zero, List.set_cons_succ]
    generalize V1.alloc (Obj.cells #[.int .i64 1, .int .i64 2, .int .i64 3, .int .i64 3, .int .i64 3, .int .i64 3, .int .i64 5] 3) = V2 at hP ⊢
    clear bM hcm
    have bC := blk_new V2 (Ca.mk (6) (0) (0) (0) (0) (0) (noT)).arr 24
    have hb := below_box V2 (.cells (Ca.mk (6) (0) (0) (0) (0) (0) (noT)).arr 24)
    have hy1 : z < V2.heap.size := hP.r.lt
    have hy2 : z + 1 < V2.heap.size := hP.n.lt
    have hy3 : b < V2.heap.size := hP.bl
    replace hP := hP.next hb
    clear hb
    go_upto_region 8 with (go_big_may; first | refine alloc_zero zeroCa rfl rfl ?_ | refine store_new rfl 24 _ _ rfl (cells := (Ca.mk (6) (0) (0) (0) (0) (0) (noT)).arr) rfl rfl sizeCa rfl (Ca.arr_one _) ?_)
    try simp only [Act.put, List.setIfInBounds_toArray, List.set_cons_zero, List.set_cons_succ]
    generalize V2.alloc (Obj.cells (Ca.mk (6) (0) (0) (0) (0) (0) (noT)).arr 24) = V3 at bC hP ⊢
    obtain ⟨y, hy⟩ : ∃ y, Hid (V2.heap.size = y) := ⟨_, rfl⟩
    rw [hy.out] at bC hy1 hy2 hy3 ⊢
    have hc1 : V3.cell? ⟨b, o + 1, none⟩ = some (.string b1) := hP.cell 1 b1 rfl
    go_wp2_with fail
    refine (rnum_ok b1 (by omega) _).mono ?_
    rintro e V4 ⟨⟨v1, is1, rfl, hn1⟩, rfl⟩
    cases is1 with
    | false =>
      rw [if_neg (by decide)] at hn1
      have HN := (show Hid (NumO (bL b1) none) from hn1)
      clear hn1
      go_wp2_with (first | refine load_blk rfl 24 _ rfl hP.n rfl Tryd.underlying24 rfl sizeCa ?_ | (refine store_part rfl 24 _ _ rfl (off := 0) (cells := Ca.zero.arr) hP.r rfl rfl sizeCa (show 0 + 7 ≤ 7 by decide) (Ca.arr_one _) ?_; intro w9 b9 k9))
      rw [putAt_all Ca.zero.arr Ca.zero.arr rfl] at b9
      exact bodyPost_ret (w := w9) (v := .tuple #[.agg Ca.zero.arr, .int .i64 210]) (ret_two rfl rfl b9 Tryd.underlying24 rfl sizeCa rfl) rfl ⟨⟨none, IsCall_of (by rw [HL.out]; exact w_num (by decide) (by decide) HN.out), rfl⟩, hP.b.trans (k9.below1 hP.z0 hP.b.size)⟩
    | true =>
      rw [if_pos rfl] at hn1
      have HN1 := (show Hid (NumO (bL b1) (some v1)) from hn1)
      clear hn1
      go_wp2_with (refine store_one rfl 22 _ _ rfl (off := 1) (.int .u64 (v1 : Int)) bC rfl rfl rfl rfl size_u64 (show 1 + 1 ≤ 7 by decide) ?_; intro w1 bC1 kC1; have hP1 := hP.kp kC1 hy1 hy2 hy3; have hc2 : _ = some (Value.string b2) := hP1.cell 2 b2 rfl)
      refine (rdig_ok b2 0 (by decide) _).mono ?_
      rintro e V5 ⟨⟨v2, is2, rfl, hd2, hd3⟩, rfl⟩
      have HD2 := (show Hid (is2 = true → 0 ≤ v2 ∧ v2 ≤ 7 ∧ digs v2 = bL b2) from hd2)
      have HD3 := (show Hid (is2 = false → ∀ n, 0 ≤ n → n ≤ 7 → digs n ≠ bL b2) from hd3)
      clear hd2 hd3
      go_upto_region 31 with (go_big_may; refine store_one rfl 3 _ _ rfl (off := 4) (.int .i64 (v2 : Int)) bC1 rfl rfl rfl rfl size_i64 (show 4 + 1 ≤ 7 by decide) ?_; intro w2 bC2 kC2; have hP2 := hP1.kp kC2 hy1 hy2 hy3)
      try simp only [Act.put, List.setIfInBounds_toArray, List.set_cons_zero, List.set_cons_succ]
      replace bC2 := bC2.drew
      have hP2d : Pz z (z + 1) b o [kB 6, b1, b2, b3, b4] w w2.drew := hP2.kp (Kp.drew [y] w2) hy1 hy2 hy3
      refine wp_region_held_drew (S := fun v => Kp [y] w2 v) (by kernel_rfl) (Kp.drew [y] w2) (fun hHeld => ?_)
      refine tkQ 1 hHeld ?_
      try simp only [yy]
      refine tkQ 2 hHeld ?_
      try simp only [yy]
      refine tkH 3 (v := ?v55) rfl (by kernel_rfl) (fun _ _ _ h => h) (Or.inl ⟨by rfl, ?hy55⟩) hHeld ?rest55
      case hy55 => (intro w hSw; have hc : World.cell? _ ⟨b, o + 3, none⟩ = some (.string b3) := (hP2.kp hSw hy1 hy2 hy3).cell 3 b3 rfl; clear hSw; go_simp; try with_reducible rfl)
      try simp only [yy]
      refine rd1 0 (fun K hK => ?_)
      go_simp
      go_wp2_with (refine (rservices_ok _).mono ?_; rintro r u1 ⟨⟨gs, rfl, hSi⟩, hb⟩)
      replace bC2 := bC2.below hb
      refine hK.out _ _ (hHeld.trans (Kp.of_below hb)) (fun hHeld => ?_)
      clear hK K hb
      refine rd1 4 (fun K hK => ?_)
      go_simp
      go_wp2_with (refine (rat_serv b3 _ _ hSi).mono ?_; rintro r u2 ⟨⟨v3, rfl, hv3⟩, rfl⟩)
      refine hK.out _ _ hHeld (fun hHeld => ?_)
      clear hK K 
      refine tkQ 5 hHeld ?_
      try simp only [yy]
      refine rd1 6 (fun K hK => ?_)
      rw [if_pos (by rfl)]
      refine wp_store_one 3 _ _ rfl (off := 5) (.int .i64 v3) bC2 rfl rfl rfl rfl size_i64 (show 5 + 1 ≤ 7 by decide) ?_
      intro u3 hn9 hk9
      replace bC2 := hn9
      refine hK.out _ _ (hHeld.trans hk9) (fun hHeld => ?_)
      clear hK K hk9 hn9
      try simp only [yy]
      refine wpAnyH_done (by kernel_rfl) ?_ _
      have hP3 := hP2.kp hHeld hy1 hy2 hy3
      clear hHeld hP2 hP2d
      replace bC2 : Blk y (Ca.mk 6 v1 0 0 v2 v3 noT).arr 24 _ := bC2
      have hc4 := hP3.cell 4 b4 rfl
      have hc5 : World.cell? _ ⟨y, 5, none⟩ = some (.int .i64 v3) := bC2.cell 5 _ rfl
      have HV := (show Hid ((∃ k : Nat, k ≤ 3 ∧ v3 = (k : Int) ∧ servW k = bL b3) ∨ (v3 = -1 ∧ ∀ k, k ≤ 3 → servW k ≠ bL b3)) from hv3)
      clear hv3 hSi
      cases is2 with
      | false =>
        go_wp2_with (first | refine load_blk rfl 24 _ rfl hP3.n rfl Tryd.underlying24 rfl sizeCa ?_ | (refine store_part rfl 24 _ _ rfl (off := 0) (cells := Ca.zero.arr) hP3.r rfl rfl sizeCa (show 0 + 7 ≤ 7 by decide) (Ca.arr_one _) ?_; intro w9 b9 k9))
        rw [putAt_all Ca.zero.arr Ca.zero.arr rfl] at b9
        exact bodyPost_ret (w := w9) (v := .tuple #[.agg Ca.zero.arr, .int .i64 210]) (ret_two rfl rfl b9 Tryd.underlying24 rfl sizeCa rfl) rfl ⟨⟨none, IsCall_of (by rw [HL.out]; exact w_grp (by decide) (by decide) (fun n h => HD3.out (by simp) n (Nat.zero_le _) h)), rfl⟩, hP3.b.trans (k9.below1 hP3.z0 hP3.b.size)⟩
      | true =>
        rcases HV.out with ⟨k, hk3, rfl, hks⟩ | ⟨rfl, hno⟩
        · have HS := (show Hid (servW k = bL b3 ∧ k ≤ 3) from ⟨hks, hk3⟩)
          have k0 : (0 : Int) ≤ (k : Int) := by omega
          clear hks hk3 HV
          have hl4 := bL_len b4
          cases hb4 : bL b4 with
          | nil =>
            rw [hb4] at hl4
            have HT : Hid (∀ t : ByteArray, t.size ≤ 16 → 61 :: bL t ≠ bL b4) := fun t _ e => by rw [hb4] at e; cases e
            have e0 : ¬ (0 : Int) < (b4.size : Int) := by simp at hl4; omega
            clear hl4 hb4
            go_wp2_with (first | refine load_blk rfl 24 _ rfl hP3.n rfl Tryd.underlying24 rfl sizeCa ?_ | (refine store_part rfl 24 _ _ rfl (off := 0) (cells := Ca.zero.arr) hP3.r rfl rfl sizeCa (show 0 + 7 ≤ 7 by decide) (Ca.arr_one _) ?_; intro w9 b9 k9))
            rw [putAt_all Ca.zero.arr Ca.zero.arr rfl] at b9
            exact bodyPost_ret (w := w9) (v := .tuple #[.agg Ca.zero.arr, .int .i64 210]) (ret_two rfl rfl b9 Tryd.underlying24 rfl sizeCa rfl) rfl ⟨⟨none, IsCall_of (by rw [HL.out]; exact w_txt HT.out), rfl⟩, hP3.b.trans (k9.below1 hP3.z0 hP3.b.size)⟩
          | cons x t =>
            rw [hb4] at hl4
            simp only [List.length_cons] at hl4
            have e0 : (0 : Int) < (b4.size : Int) := by omega
            by_cases h16 : t.length ≤ 16
            · have e1 : (b4.size : Int) < 18 := by omega
              have hix : ∀ W : World, (Instr.index 9 (.string b4) (.int .i64 0)).run Tryd.prog W = .ok (.int .u8 (x.toNat : Int)) W := str_ix (c := b4) (j := 0) (x := x) (by rw [hb4]; rfl)
              by_cases h61 : x = 61
              · have HT : Hid (61 :: bL (strB t) = bL b4 ∧ (strB t).size ≤ 16) := ⟨by rw [hb4, h61]; rfl, by rw [strB_size]; exact h16⟩
                have d1 : ((x.toNat : Int) == 61) = true := by rw [h61]; rfl
                have s2 := sl_drop b4 1 (by omega) .i64 1 rfl
                rw [hb4, show (x :: t).drop 1 = t from rfl] at s2
                clear hl4 hb4 h16 h61
                generalize strB t = tx at HT s2
                go_wp2_with (first | (refine store_one rfl 9 _ _ rfl (off := 6) (.string tx) bC2 rfl rfl rfl rfl size_str (show 6 + 1 ≤ 7 by decide) ?_; intro w4 bC4 kC4; have hP4 := hP3.kp kC4 hy1 hy2 hy3) | refine load_blk rfl 24 _ rfl bC4 rfl Tryd.underlying24 rfl sizeCa ?_ | (refine store_part rfl 24 _ _ rfl (off := 0) (cells := (Ca.mk 6 v1 0 0 v2 k tx).arr) hP4.r rfl rfl sizeCa (show 0 + 7 ≤ 7 by decide) (Ca.arr_one _) ?_; intro w9 b9 k9))
                rw [show putAt Ca.zero.arr 0 (Ca.mk 6 v1 0 0 v2 k tx).arr.toList = (Ca.mk 6 v1 0 0 v2 k tx).arr from putAt_all _ _ rfl] at b9
                exact bodyPost_ret (w := w9) (v := .tuple #[.agg (Ca.mk 6 v1 0 0 v2 k tx).arr, .int .i64 0]) (ret_two rfl rfl b9 Tryd.underlying24 rfl sizeCa rfl) rfl ⟨⟨some (Ca.mk 6 v1 0 0 v2 k tx), IsCall_of (by rw [HL.out]; exact w_ok6 HN1.out (HD2.out (by simp)).2.1 (HD2.out (by simp)).2.2 HS.out.2 HS.out.1 HT.out.2 HT.out.1), rfl⟩, hP4.b.trans (k9.below1 hP4.z0 hP4.b.size)⟩
              · have HT : Hid (∀ u : ByteArray, u.size ≤ 16 → 61 :: bL u ≠ bL b4) := fun u hu e => by
                  rw [hb4] at e
                  exact h61 (List.cons.inj e).1.symm
                have d1 : ((x.toNat : Int) == 61) = false := by
                  have h : ¬ x.toNat = 61 := fun h => h61 (UInt8.toNat_inj.1 h)
                  simp; omega
                clear hl4 hb4 h16 h61
                go_wp2_with (first | refine load_blk rfl 24 _ rfl hP3.n rfl Tryd.underlying24 rfl sizeCa ?_ | (refine store_part rfl 24 _ _ rfl (off := 0) (cells := Ca.zero.arr) hP3.r rfl rfl sizeCa (show 0 + 7 ≤ 7 by decide) (Ca.arr_one _) ?_; intro w9 b9 k9))
                rw [putAt_all Ca.zero.arr Ca.zero.arr rfl] at b9
                exact bodyPost_ret (w := w9) (v := .tuple #[.agg Ca.zero.arr, .int .i64 210]) (ret_two rfl rfl b9 Tryd.underlying24 rfl sizeCa rfl) rfl ⟨⟨none, IsCall_of (by rw [HL.out]; exact w_txt HT.out), rfl⟩, hP3.b.trans (k9.below1 hP3.z0 hP3.b.size)⟩
            · have HT : Hid (∀ u : ByteArray, u.size ≤ 16 → 61 :: bL u ≠ bL b4) := fun u hu e => by
                rw [hb4] at e
                have := congrArg List.length (List.cons.inj e).2
                rw [bL_len] at this
                omega
              have e1 : ¬ (b4.size : Int) < 18 := by omega
              clear hl4 hb4 h16
              go_wp2_with (first | refine load_blk rfl 24 _ rfl hP3.n rfl Tryd.underlying24 rfl sizeCa ?_ | (refine store_part rfl 24 _ _ rfl (off := 0) (cells := Ca.zero.arr) hP3.r rfl rfl sizeCa (show 0 + 7 ≤ 7 by decide) (Ca.arr_one _) ?_; intro w9 b9 k9))
              rw [putAt_all Ca.zero.arr Ca.zero.arr rfl] at b9
              exact bodyPost_ret (w := w9) (v := .tuple #[.agg Ca.zero.arr, .int .i64 210]) (ret_two rfl rfl b9 Tryd.underlying24 rfl sizeCa rfl) rfl ⟨⟨none, IsCall_of (by rw [HL.out]; exact w_txt HT.out), rfl⟩, hP3.b.trans (k9.below1 hP3.z0 hP3.b.size)⟩
        · have HN := (show Hid (∀ k, k ≤ 3 → servW k ≠ bL b3) from hno)
          clear hno HV
          go_wp2_with (first | refine load_blk rfl 24 _ rfl hP3.n rfl Tryd.underlying24 rfl sizeCa ?_ | (refine store_part rfl 24 _ _ rfl (off := 0) (cells := Ca.zero.arr) hP3.r rfl rfl sizeCa (show 0 + 7 ≤ 7 by decide) (Ca.arr_one _) ?_; intro w9 b9 k9))
          rw [putAt_all Ca.zero.arr Ca.zero.arr rfl] at b9
          exact bodyPost_ret (w := w9) (v := .tuple #[.agg Ca.zero.arr, .int .i64 210]) (ret_two rfl rfl b9 Tryd.underlying24 rfl sizeCa rfl) rfl ⟨⟨none, IsCall_of (by rw [HL.out]; exact w_srv HN.out), rfl⟩, hP3.b.trans (k9.below1 hP3.z0 hP3.b.size)⟩
  · have HN : Hid (R.length + 1 ≠ 5) := hn
    obtain ⟨nL, hnL⟩ : ∃ n, Hid (L.length = n) := ⟨_, rfl⟩
    have hnp : 0 < nL := by rw [← hnL.out, hR]; simp
    have e1 : ((nL : Int) != 5) = true := by
      have : nL ≠ 5 := by rw [← hnL.out, hR]; simpa using hn
      simp; omega
    rw [hnL.out]
    clear hn hR hLw
    go_upto_region 3 with fail
    try simp only [Act.put, List.setIfInBounds_toArray, List.set_cons_zero, List.set_cons_succ]
    refine wp_region_held_drew (S := fun v => Below V.heap.size V v) (by kernel_rfl) ((Below.refl _ _).drew) (fun hHeld => ?_)
    refine tkQ 1 hHeld ?_
    try simp only [yy]
    refine tkQ 2 hHeld ?_
    try simp only [yy]
    refine tkH 3 (v := ?v51) rfl (by kernel_rfl) (fun _ _ _ h => h) (Or.inl ⟨by rfl, ?hy51⟩) hHeld ?rest51
    case hy51 => (intro w hSw; have hc : World.cell? _ ⟨b, o, none⟩ = some (.string (kB 6)) := (hP.next hSw).cell0 _ hb0; clear hSw; go_simp; try with_reducible rfl)
    try simp only [yy]
    refine rd1 0 (fun K hK => ?_)
    go_simp
    go_wp2_with (refine (rkinds_ok _).mono ?_; rintro r u1 ⟨⟨gk, rfl, hKi⟩, hb⟩)
    refine hK.out _ _ (below_next hHeld hb) (fun hHeld => ?_)
    clear hK K hb
    refine rd1 4 (fun K hK => ?_)
    go_simp
    go_wp2_with (refine (rat_kind 6 (by decide) _ _ hKi).mono ?_; rintro r u2 ⟨rfl, rfl⟩)
    refine hK.out _ _ hHeld (fun hHeld => ?_)
    clear hK K 
    refine tkQ 5 hHeld ?_
    try simp only [yy]
    refine wpAnyH_done (by kernel_rfl) ?_ _
    replace hP := hP.next hHeld
    clear hHeld hKi
    rename World => V1
    have bM := blk_new V1 #[.int .i64 1, .int .i64 2, .int .i64 3, .int .i64 3, .int .i64 3, .int .i64 3, .int .i64 5] 3
    have hb := below_box V1 (.cells #[.int .i64 1, .int .i64 2, .int .i64 3, .int .i64 3, .int .i64 3, .int .i64 3, .int .i64 5] 3)
    replace hP := hP.next hb
    clear hb
    have hcm : (V1.alloc (.cells #[.int .i64 1, .int .i64 2, .int .i64 3, .int .i64 3, .int .i64 3, .int .i64 3, .int .i64 5] 3)).cell? ⟨V1.heap.size, 6, none⟩ = some (.int .i64 5) := bM.cell 6 _ rfl
    go_wp2_with (first | refine load_blk rfl 24 _ rfl hP.n rfl Tryd.underlying24 rfl sizeCa ?_ | (refine store_part rfl 24 _ _ rfl (off := 0) (cells := Ca.zero.arr) hP.r rfl rfl sizeCa (show 0 + 7 ≤ 7 by decide) (Ca.arr_one _) ?_; intro w9 b9 k9))
    rw [putAt_all Ca.zero.arr Ca.zero.arr rfl] at b9
    exact bodyPost_ret (w := w9) (v := .tuple #[.agg Ca.zero.arr, .int .i64 210]) (ret_two rfl rfl b9 Tryd.underlying24 rfl sizeCa rfl) rfl ⟨⟨none, IsCall_of (by rw [HL.out]; exact w_len (by decide) (by simpa [manyC] using HN.out)), rfl⟩, hP.b.trans (k9.below1 hP.z0 hP.b.size)⟩

set_option maxHeartbeats 8000000 in
theorem rparsen (s : ByteArray) (hs : s.size ≤ 140737488355328) (w : World) (hk : ∀ d, d ≤ 6 → kindW d ≠ (cutL (bL s)).1) : Calls Tryd.prog 9 #[.string s] w (RParse s w) := by
  have bR := blk_new w Ca.zero.arr 24
  have hB := below_box w (.cells Ca.zero.arr 24)
  have bN := blk_new (w.alloc (.cells Ca.zero.arr 24)) Ca.zero.arr 24
  replace bR := bR.alloc (.cells Ca.zero.arr 24)
  replace hB := hB.alloc hB.size (.cells Ca.zero.arr 24)
  rw [alloc_size] at bN
  have hls := bL_len s
  go_enter Tryd.func9, Tryd.ntmps9
  go_upto_region 2 with (go_big_may; first | refine build_zero builtCa rfl rfl ?_ | refine alloc_zero zeroCa rfl rfl ?_ | refine store_new rfl 24 _ _ rfl (cells := Ca.zero.arr) rfl rfl sizeCa rfl (Ca.arr_one _) ?_)
  try simp only [Act.put, List.setIfInBounds_toArray, List.set_cons_zero, List.set_cons_succ, alloc_size]
  generalize (w.alloc (Obj.cells Ca.zero.arr 24)).alloc (Obj.cells Ca.zero.arr 24) = W at bR bN hB ⊢
  obtain ⟨z, hz⟩ : ∃ z, Hid (w.heap.size = z) := ⟨_, rfl⟩
  have hzB : w.heap.size ≤ z := by rw [hz.out]; exact Nat.le_refl _
  rw [hz.out] at bR bN ⊢
  have pw := rwords_ok s hs 4 (by omega) W
  go_wp2_with fail
  refine pw.mono ?_
  clear pw
  rintro e V ⟨⟨a, L, lc, rfl, hLw, hS⟩, hb⟩
  obtain ⟨b0, R, hR⟩ : ∃ b0 R, L = b0 :: R := by
    obtain ⟨x, q, hq⟩ := wordsL_ne 4 (bL s)
    cases L with
    | nil => rw [hq] at hLw; cases hLw
    | cons b R => exact ⟨b, R, rfl⟩
  obtain ⟨b, o, rfl, hbl, hr⟩ : ∃ b o, a = some ⟨b, o, none⟩ ∧ b < V.heap.size ∧ V.rangeAt b o (flat sv1 L) := by
    rcases hS with h | ⟨b, o, e, _, h1, h2⟩
    · rw [hR] at h; cases h
    · exact ⟨b, o, e, h1, h2⟩
  have hP : Pz z (z + 1) b o L w V := ⟨bR.below hb, bN.below hb, hr, hbl, hB.trans (hb.mono hB.size), hzB⟩
  clear bR bN hb hr hbl hB hS hzB
  have hb0 : L[0]? = some b0 := by rw [hR]; rfl
  have hmr := many_run
  have hw0 : bL b0 = (cutL (bL s)).1 := by
    rw [hR, words_RL] at hLw
    exact (List.cons.inj hLw).1
  have hno : ∀ d, d ≤ 6 → kindW d ≠ bL b0 := by rw [hw0]; exact hk
  have HLw : Hid (L.map bL = wordsL 4 (bL s) ∧ L = b0 :: R ∧ ∀ d, d ≤ 6 → kindW d ≠ bL b0) := ⟨hLw, hR, hno⟩
  obtain ⟨nL, hnL⟩ : ∃ n, Hid (L.length = n) := ⟨_, rfl⟩
  have hnp : 0 < nL := by rw [← hnL.out, hR]; simp
  rw [hnL.out]
  clear hLw hR hw0 hls
  go_upto_region 3 with fail
  try simp only [Act.put, List.setIfInBounds_toArray, List.set_cons_zero, List.set_cons_succ]
  refine wp_region_held_drew (S := fun v => Below V.heap.size V v) (by kernel_rfl) ((Below.refl _ _).drew) (fun hHeld => ?_)
  refine tkQ 1 hHeld ?_
  try simp only [yy]
  refine tkQ 2 hHeld ?_
  try simp only [yy]
  refine tkH 3 (v := ?v63) rfl (by kernel_rfl) (fun _ _ _ h => h) (Or.inl ⟨by rfl, ?hy63⟩) hHeld ?rest63
  case hy63 => (intro w hSw; have hc : World.cell? _ ⟨b, o, none⟩ = some (.string b0) := (hP.next hSw).cell0 b0 hb0; clear hSw; go_simp; try with_reducible rfl)
  try simp only [yy]
  refine rd1 0 (fun K hK => ?_)
  go_simp
  go_wp2_with (refine (rkinds_ok _).mono ?_; rintro r u1 ⟨⟨gk, rfl, hKi⟩, hb⟩)
  refine hK.out _ _ (below_next hHeld hb) (fun hHeld => ?_)
  clear hK K hb
  refine rd1 4 (fun K hK => ?_)
  go_simp
  go_wp2_with (refine (rat_nokind b0 hno _ _ hKi).mono ?_; rintro r u2 ⟨rfl, rfl⟩)
  refine hK.out _ _ hHeld (fun hHeld => ?_)
  clear hK K 
  refine tkQ 5 hHeld ?_
  try simp only [yy]
  refine wpAnyH_done (by kernel_rfl) ?_ _
  replace hP := hP.next hHeld
  clear hHeld hKi
  rename World => V1
  have hb := below_box V1 (.cells #[.int .i64 1, .int .i64 2, .int .i64 3, .int .i64 3, .int .i64 3, .int .i64 3, .int .i64 5] 3)
  replace hP := hP.next hb
  clear hb
  go_wp2_with (first | refine load_blk rfl 24 _ rfl hP.n rfl Tryd.underlying24 rfl sizeCa ?_ | (refine store_part rfl 24 _ _ rfl (off := 0) (cells := Ca.zero.arr) hP.r rfl rfl sizeCa (show 0 + 7 ≤ 7 by decide) (Ca.arr_one _) ?_; intro w9 b9 k9))
  rw [putAt_all Ca.zero.arr Ca.zero.arr rfl] at b9
  exact bodyPost_ret (w := w9) (v := .tuple #[.agg Ca.zero.arr, .int .i64 210]) (ret_two rfl rfl b9 Tryd.underlying24 rfl sizeCa rfl) rfl ⟨⟨none, IsCall_of (by rw [← HLw.out.1, HLw.out.2.1]; exact w_kind HLw.out.2.2), rfl⟩, hP.b.trans (k9.below1 hP.z0 hP.b.size)⟩

end Go.Proofs.YtiepdfngjfhadaaDoor
