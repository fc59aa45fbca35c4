/-
  What one offer makes of what is kept, of the counts, of what was taken; the program's own step.
  Conditions: what is kept takes no more bytes than a list may.
-/
import Derived.Test.YthgmecgknhphmaaKtD
import Derived.Test.YthgmecgknhphmaaBase
namespace Go.Proofs.Ythgmecgknhphmaa
set_option maxRecDepth 10000
open Go.RowKit Go.Sort
set_option linter.unusedVariables false

structure Os where
  L : List Kt
  c : Nat → Nat
  t : List Kt

def offB (c m o : Nat → Nat) (x : Kt) : Bool := decide (0 ≤ x.fr ∧ x.fr < 8) && (decide (x.rd ≤ o x.fr.toNat) && takesB c m x)
def stepO (m o : Nat → Nat) (s : Os) (x : Kt) : Os := if offB s.c m o x = true then ⟨takeL s.L x, takeC s.c x, s.t ++ [x]⟩ else s
theorem step_yes (m o : Nat → Nat) (s : Os) (x : Kt) (h : offB s.c m o x = true) : stepO m o s x = ⟨takeL s.L x, takeC s.c x, s.t ++ [x]⟩ := if_pos h
theorem step_no (m o : Nat → Nat) (s : Os) (x : Kt) (h : offB s.c m o x = false) : stepO m o s x = s := if_neg (by simp [h])
theorem takeC_lt (c : Nat → Nat) (x : Kt) (hc : ∀ i, c i < 4294967296) (i : Nat) : takeC c x i < 4294967296 := by
  unfold takeC put8
  split
  · exact x.lt
  · exact hc i
theorem step_lt (m o : Nat → Nat) (s : Os) (x : Kt) (hc : ∀ i, s.c i < 4294967296) (i : Nat) : (stepO m o s x).c i < 4294967296 := by
  unfold stepO
  split
  · exact takeC_lt _ _ hc i
  · exact hc i
theorem step_len (m o : Nat → Nat) (s : Os) (x : Kt) : (stepO m o s x).L.length ≤ s.L.length + 1 := by
  unfold stepO
  split
  · exact takeL_len x s.L
  · omega
theorem step_tlen (m o : Nat → Nat) (s : Os) (x : Kt) : (stepO m o s x).t.length ≤ s.t.length + 1 := by
  unfold stepO
  split
  · simp
  · omega

/- What stands in the program's variables while a packet is offered. -/
structure OfS (n K T B : Nat) (m o : Nat → Nat) (p : Pk) (s : Os) (w : World) : Prop where
  c : Blk n (mbc s.c) 29 w
  m : Blk (n + 1) (mbc m) 28 w
  p : Blk (n + 1 + 1) (pkc p) 50 w
  o : Blk (n + 1 + 1 + 1) (mbc o) 29 w
  r : Blk (n + 1 + 1 + 1 + 1) (mbc noMb) 29 w
  k : ∃ a k, Blk K #[.slice a s.L.length k] 30 w ∧ Li Kt.vals (n + 1 + 1 + 1 + 1 + 1) a s.L w
  t : ∃ a k, Blk T #[.slice a s.t.length k] 30 w ∧ Lg Kt.vals 38 64 B a k s.t w
  h1 : n + 1 + 1 + 1 + 1 < K
  h2 : K < T
  h3 : T < B
  h4 : B ≤ w.heap.size

theorem OfS.below {n K T B : Nat} {m o : Nat → Nat} {p : Pk} {s : Os} {w w' : World} (h : OfS n K T B m o p s w) (hb : Below w.heap.size w w') : OfS n K T B m o p s w' := by
  obtain ⟨hc, hm, hp, ho, hr, ⟨a, k, hk, hl⟩, ⟨b, j, ht, hg⟩, h1, h2, h3, h4⟩ := h
  exact ⟨hc.below hb, hm.below hb, hp.below hb, ho.below hb, hr.below hb, ⟨a, k, hk.below hb, hl.below hb⟩, ⟨b, j, ht.below hb, hg.below hb⟩, h1, h2, h3, Nat.le_trans h4 hb.size⟩

theorem sizeSl : (Try.prog.info? 30).map (·.size) = some 1 := by kernel_rfl

set_option maxHeartbeats 8000000 in
theorem offer1_ok (n K T B : Nat) (m o : Nat → Nat) (p : Pk) (s : Os) (fr rd : Nat) (f : Nat → En) (hrd : rd < 4294967296) (hc : ∀ i, s.c i < 4294967296) (hL : (s.L.length + 1) * 352 ≤ 140737488355328) (hT : s.t.length ≤ 10) (w : World) (hS : OfS n K T B m o p s w) :
    Calls Try.prog 106 #[.int .u32 (fr : Int), .int .u32 (rd : Int), .agg (frc f), .pointer (some ⟨n + 1 + 1 + 1, 0, none⟩), .pointer (some ⟨K, 0, none⟩), .pointer (some ⟨n, 0, none⟩), .pointer (some ⟨n + 1, 0, none⟩), .pointer (some ⟨T, 0, none⟩)] w
      fun e w' => e = .returned (.tuple #[]) ∧ OfS n K T B m o p (stepO m o s (Kt.mk (fr : Int) rd f hrd)) w' ∧ Below n w w' := by
  obtain ⟨iI, zI, hI, hz0, hsz, hby, hzs⟩ := infoKt
  have b1 := blk_new w (frc f) 41
  have hb0 : Below w.heap.size w (w.alloc (.cells (frc f) 41)) := below_box w _
  have hS1 := hS.below hb0
  have hnw : n ≤ w.heap.size := by have := hS.h1; have := hS.h2; have := hS.h3; have := hS.h4; omega
  have hB : Below n w (w.alloc (.cells (frc f) 41)) := hb0.mono hnw
  have hv : w.heap.size < (w.alloc (.cells (frc f) 41)).heap.size := by simp
  have hBw := hS.h4
  have hpa : ∀ c d, putAt (mbc c) 0 (mbc d).toList = mbc d := fun c d => putAt_all _ _ rfl
  obtain ⟨W, hW⟩ : ∃ W, w.alloc (.cells (frc f) 41) = W := ⟨_, rfl⟩
  rw [hW] at b1 hb0 hS1 hB hv
  by_cases h8 : fr < 8
  rotate_left
  · rw [step_no m o s _ (by simp [offB]; omega)]
    have g0 : decide ((8 : Int) ≤ (fr : Int)) = true := by simp; omega
    clear b1 hb0 hS hI
    go_enter Try.func106, Try.ntmps106
    go_wp2_with fail
    exact bodyPost_ret (v := .tuple #[]) (results_none rfl _ _ _) rfl ⟨rfl, hS1, hB⟩
  have f0 : ¬ (8 : Int) ≤ (fr : Int) := by omega
  have f1 : (fr : Int) < 8 := by omega
  have f2 : (0 : Int) ≤ (fr : Int) := by omega
  have q0 := hS1.o.cell fr _ (mbc_get o fr h8)
  by_cases hm : rd ≤ o fr
  rotate_left
  · rw [step_no m o s _ (by simp [offB]; omega)]
    have g1 : (o fr : Int) < (rd : Int) := by omega
    clear b1 hb0 hS hI
    go_enter Try.func106, Try.ntmps106
    go_wp2_with fail
    exact bodyPost_ret (v := .tuple #[]) (results_none rfl _ _ _) rfl ⟨rfl, hS1, hB⟩
  have g1 : ¬ (o fr : Int) < (rd : Int) := by omega
  have hob : offB s.c m o (Kt.mk (fr : Int) rd f hrd) = takesB s.c m (Kt.mk (fr : Int) rd f hrd) := by
    have e1 : decide (0 ≤ (Kt.mk (fr : Int) rd f hrd).fr ∧ (Kt.mk (fr : Int) rd f hrd).fr < 8) = true := by simp; omega
    have e2 : decide ((Kt.mk (fr : Int) rd f hrd).rd ≤ o (Kt.mk (fr : Int) rd f hrd).fr.toNat) = true := by simp; omega
    rw [offB, e1, e2, Bool.true_and, Bool.true_and]
  have b4 := blk_new W (Kt.mk (fr : Int) rd f hrd).arr 64
  have hb1 : Below W.heap.size W (W.alloc (.cells (Kt.mk (fr : Int) rd f hrd).arr 64)) := below_box W _
  have hS2 := hS1.below hb1
  have hBV := hB.trans (hb1.mono (Nat.le_trans hnw hB.size))
  have hbT := hS1.h4
  cases htb : takesB s.c m (Kt.mk (fr : Int) rd f hrd) with
  | false =>
    rw [htb] at hob
    rw [step_no m o s _ hob]
    clear hS hob
    go_enter Try.func106, Try.ntmps106
    go_upto_region 4 with (first | refine load_blk rfl 41 _ rfl b1 rfl Try.underlying41 rfl sizeFr ?_ | refine build_as rfl 64 #[(0, .tmp 23), (1, .tmp 24), (2, .tmp 25)] rfl (C := (Kt.mk (fr : Int) rd f hrd).arr) (by kernel_rfl) ?_ | refine alloc_zero zeroKt rfl rfl ?_ | refine store_new rfl 64 _ _ rfl (cells := (Kt.mk (fr : Int) rd f hrd).arr) rfl rfl sizeKt rfl (Kt.arr_one _) ?_)
    try simp only [Act.put]
    generalize W.alloc (Obj.cells (Kt.mk (fr : Int) rd f hrd).arr 64) = V at b4 hb1 hS2 hBV ⊢
    obtain ⟨hc', hm', hp', ho', hr', ⟨ka, kk, hk, hkl⟩, ⟨ta, tk, ht, htg⟩, h1, h2, h3, h4⟩ := hS2
    have kc : V.cell? ⟨K, 0, none⟩ = some (.slice ka s.L.length kk) := hk.cell 0 _ rfl
    clear b1 hb0 hb1 hS1 hB q0
    have hkV : K < V.heap.size := hk.lt
    have hnV : n < V.heap.size := hc'.lt
    go_wp2_with (first | refine load_blk rfl 29 _ rfl hc' rfl Try.underlying29 rfl sizeCt ?_ | refine load_blk rfl 28 _ rfl hm' rfl Try.underlying28 rfl sizeMb ?_ | refine load_blk rfl 64 _ rfl b4 rfl Try.underlying64 rfl sizeKt ?_)
    refine (take_no s.L ka kk s.c m (Kt.mk (fr : Int) rd f hrd) hc (by omega) htb V (hkl.mono (Nat.zero_le _))).mono ?_
    rintro r w1 ⟨⟨a', c', rfl, hl'⟩, hb⟩
    have sV := hb.size
    replace hc' := hc'.below hb
    replace hm' := hm'.below hb
    replace hp' := hp'.below hb
    replace ho' := ho'.below hb
    replace hr' := hr'.below hb
    replace hk := hk.below hb
    replace ht := ht.below hb
    have htg0 := htg.in
    replace htg := htg.below hb
    replace b4 := b4.below hb
    replace hBV := hBV.trans (hb.mono (Nat.le_trans hnw hBV.size))
    clear hb hkl kc
    go_upto_region 5 with (first | (refine store_one rfl 30 _ _ rfl (off := 0) (.slice a' s.L.length c') hk rfl rfl rfl rfl sizeSl (by simp) ?_; intro w2 b2 k2; replace hc' := hc'.kp1 k2 (by omega); have hl2 := hl'.kp k2 (by simp; exact hkV)) | (refine store_part rfl 29 _ _ rfl (off := 0) (cells := mbc s.c) hc' rfl rfl sizeCt (Nat.le_refl _) (mbc_one _) ?_; intro w3 b3 k3; rw [hpa] at b3))
    try simp only [Act.put]
    replace hm' := (hm'.kp1 k2 (by omega)).kp1 k3 (by omega)
    replace hp' := (hp'.kp1 k2 (by omega)).kp1 k3 (by omega)
    replace ho' := (ho'.kp1 k2 (by omega)).kp1 k3 (by omega)
    replace hr' := (hr'.kp1 k2 (by omega)).kp1 k3 (by omega)
    replace ht := (ht.kp1 k2 (by omega)).kp1 k3 (by omega)
    replace htg := (htg.kp k2 (by simp; omega)).kp k3 (by simp; omega)
    replace b4 := (b4.kp1 k2 (by omega)).kp1 k3 (by omega)
    replace b2 := b2.kp1 k3 (by omega)
    replace hl2 := hl2.kp k3 (by simp; omega)
    replace hBV := (hBV.trans (k2.below1 (by omega) (Nat.le_trans hnw hBV.size))).trans (k3.below1 (Nat.le_refl _) (Nat.le_trans (Nat.le_trans hnw hBV.size) k2.size))
    have hs3 : V.heap.size ≤ w3.heap.size := Nat.le_trans sV (Nat.le_trans k2.size k3.size)
    clear hc' hl' hk k2 k3
    have hfin : OfS n K T B m o p s w3 := ⟨b3, hm', hp', ho', hr', ⟨a', c', b2, hl2.mono (by omega)⟩, ⟨ta, tk, ht, htg⟩, h1, h2, h3, by omega⟩
    clear b2 b3 b4 hm' hp' ho' hr' hl2 ht htg
    go_wp2_with fail
    go_end0
    exact ⟨rfl, hfin, hBV⟩
  | true =>
    rw [htb] at hob
    rw [step_yes m o s _ hob]
    clear hS hob
    go_enter Try.func106, Try.ntmps106
    go_upto_region 4 with (first | refine load_blk rfl 41 _ rfl b1 rfl Try.underlying41 rfl sizeFr ?_ | refine build_as rfl 64 #[(0, .tmp 23), (1, .tmp 24), (2, .tmp 25)] rfl (C := (Kt.mk (fr : Int) rd f hrd).arr) (by kernel_rfl) ?_ | refine alloc_zero zeroKt rfl rfl ?_ | refine store_new rfl 64 _ _ rfl (cells := (Kt.mk (fr : Int) rd f hrd).arr) rfl rfl sizeKt rfl (Kt.arr_one _) ?_)
    try simp only [Act.put]
    generalize W.alloc (Obj.cells (Kt.mk (fr : Int) rd f hrd).arr 64) = V at b4 hb1 hS2 hBV ⊢
    obtain ⟨hc', hm', hp', ho', hr', ⟨ka, kk, hk, hkl⟩, ⟨ta, tk, ht, htg⟩, h1, h2, h3, h4⟩ := hS2
    have kc : V.cell? ⟨K, 0, none⟩ = some (.slice ka s.L.length kk) := hk.cell 0 _ rfl
    clear b1 hb0 hb1 hS1 hB q0
    have hkV : K < V.heap.size := hk.lt
    have hnV : n < V.heap.size := hc'.lt
    go_wp2_with (first | refine load_blk rfl 29 _ rfl hc' rfl Try.underlying29 rfl sizeCt ?_ | refine load_blk rfl 28 _ rfl hm' rfl Try.underlying28 rfl sizeMb ?_ | refine load_blk rfl 64 _ rfl b4 rfl Try.underlying64 rfl sizeKt ?_)
    refine (take_yes s.L ka kk s.c m (Kt.mk (fr : Int) rd f hrd) hc hL htb V (hkl.mono (Nat.zero_le _))).mono ?_
    rintro r w1 ⟨⟨a', c', rfl, hl'⟩, hb⟩
    have sV := hb.size
    replace hc' := hc'.below hb
    replace hm' := hm'.below hb
    replace hp' := hp'.below hb
    replace ho' := ho'.below hb
    replace hr' := hr'.below hb
    replace hk := hk.below hb
    replace ht := ht.below hb
    have htg0 := htg.in
    replace htg := htg.below hb
    replace b4 := b4.below hb
    replace hBV := hBV.trans (hb.mono (Nat.le_trans hnw hBV.size))
    clear hb hkl kc
    go_upto_region 5 with (first | (refine store_one rfl 30 _ _ rfl (off := 0) (.slice a' (takeL s.L (Kt.mk (fr : Int) rd f hrd)).length c') hk rfl rfl rfl rfl sizeSl (by simp) ?_; intro w2 b2 k2; replace hc' := hc'.kp1 k2 (by omega); have hl2 := hl'.kp k2 (by simp; exact hkV)) | (refine store_part rfl 29 _ _ rfl (off := 0) (cells := mbc (takeC s.c (Kt.mk (fr : Int) rd f hrd))) hc' rfl rfl sizeCt (Nat.le_refl _) (mbc_one _) ?_; intro w3 b3 k3; rw [hpa] at b3))
    try simp only [Act.put]
    replace hm' := (hm'.kp1 k2 (by omega)).kp1 k3 (by omega)
    replace hp' := (hp'.kp1 k2 (by omega)).kp1 k3 (by omega)
    replace ho' := (ho'.kp1 k2 (by omega)).kp1 k3 (by omega)
    replace hr' := (hr'.kp1 k2 (by omega)).kp1 k3 (by omega)
    replace ht := (ht.kp1 k2 (by omega)).kp1 k3 (by omega)
    replace htg := (htg.kp k2 (by simp; omega)).kp k3 (by simp; omega)
    replace b4 := (b4.kp1 k2 (by omega)).kp1 k3 (by omega)
    replace b2 := b2.kp1 k3 (by omega)
    replace hl2 := hl2.kp k3 (by simp; omega)
    replace hBV := (hBV.trans (k2.below1 (by omega) (Nat.le_trans hnw hBV.size))).trans (k3.below1 (Nat.le_refl _) (Nat.le_trans (Nat.le_trans hnw hBV.size) k2.size))
    have hs3 : V.heap.size ≤ w3.heap.size := Nat.le_trans sV (Nat.le_trans k2.size k3.size)
    clear hc' hl' hk k2 k3
    have t0 : w3.cell? ⟨T, 0, none⟩ = some (.slice ta s.t.length tk) := ht.cell 0 _ rfl
    have hb5 := below_box w3 (.cells (Kt.mk (fr : Int) rd f hrd).arr 64)
    have hg2 := htg.below hb5
    have hx := (li_box (f := Kt.vals) w3 (Kt.mk (fr : Int) rd f hrd) 64 0 (Nat.zero_le _)).src (P := Try.prog) Kt.vals_length Kt.vals_one Try.underlying30 1
    have hs5 : B ≤ (w3.alloc (.cells (Kt.mk (fr : Int) rd f hrd).arr 64)).heap.size := by have := hb5.size; omega
    have hno : ∀ A, A < B → A ∉ blkOf ta := fun A hA hm => absurd (htg0 A hm).1 (by omega)
    have ht3 := ht.below hb5
    have hBl : ∀ k ∈ blkOf ta, n ≤ k := fun k hm => by have := (htg0 k hm).1; omega
    go_wp2_with (first | refine load_blk rfl 64 _ rfl b4 rfl Try.underlying64 rfl sizeKt ?_ | refine box_kt rfl _ rfl (Kt.mk (fr : Int) rd f hrd) rfl ?_ | (refine append_lk Kt.vals_length rfl _ _ rfl Try.underlying30 hI hz0 hsz hby hzs hg2 hs5 rfl rfl (M := [(Kt.mk (fr : Int) rd f hrd)]) (by simp) hx rfl (by simp only [List.length_cons, List.length_nil]; omega) (by simp only [List.length_cons, List.length_nil, maxLen]; omega) ?_; intro ad' cap' w5 hg5 hk5; have ht5 := ht3.kp hk5 (hno T (by omega))) | (refine store_one rfl 30 _ _ rfl (off := 0) (.slice ad' (s.t.length + [(Kt.mk (fr : Int) rd f hrd)].length) cap') ht5 rfl rfl rfl rfl sizeSl (by simp) ?_; intro w6 b6 k6))
    go_end0
    have hK6 : ∀ A C U, Blk A C U w3 → A < T → Blk A C U w6 := fun A C U h hA => ((h.below hb5).kp hk5 (hno A (by omega))).kp1 k6 (by omega)
    have hB5 := hBV.trans (hb5.mono (Nat.le_trans hnw hBV.size))
    have hB6 := hB5.trans (hk5.below hBl (Nat.le_trans hnw hB5.size))
    have hB7 := hB6.trans (k6.below1 (by omega) (Nat.le_trans hnw hB6.size))
    have s6 : w3.heap.size ≤ w6.heap.size := Nat.le_trans hb5.size (Nat.le_trans hk5.size k6.size)
    have l6 : Li Kt.vals (n + 1 + 1 + 1 + 1 + 1) a' (takeL s.L (Kt.mk (fr : Int) rd f hrd)) w6 := (((hl2.below hb5).kp hk5 (fun k hm => (htg0 k hm).2)).kp k6 (by simp; omega)).mono (by omega)
    exact ⟨rfl, ⟨hK6 _ _ _ b3 (by omega), hK6 _ _ _ hm' (by omega), hK6 _ _ _ hp' (by omega), hK6 _ _ _ ho' (by omega), hK6 _ _ _ hr' (by omega), ⟨a', c', hK6 _ _ _ b2 (by omega), l6⟩, ⟨ad', cap', by simpa using b6, hg5.kp k6 (by simp; omega)⟩, h1, h2, h3, by omega⟩, hB7⟩

end Go.Proofs.Ythgmecgknhphmaa
