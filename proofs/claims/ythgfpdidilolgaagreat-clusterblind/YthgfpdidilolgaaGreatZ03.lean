/-
  Of the texts beneath these laws, in their order: KtG, KtH, KtN.
  Each theorem says its own conditions.
-/
import Derived.Test.YthgfpdidilolgaaGreatZ02
import Derived.Test.YthgfpdidilolgaaGreatZ00
namespace Go.Proofs.YthgfpdidilolgaaGreat
set_option maxRecDepth 10000
open Go.RowKit Go.Sort
set_option linter.unusedVariables false
structure Os where
 L : List Kt
 c : Nat → Nat
 t : List Kt
def offB (c m o : Nat → Nat) (x : Kt) : Bool := decide (0 ≤ x.fr ∧ x.fr < 8) && (decide (x.rd ≤ o x.fr.toNat) && takesB c m x)
def stepO (m o : Nat → Nat) (s : Os) (x : Kt) : Os := if offB s.c m o x = true then ⟨takeL s.L x, takeC s.c x, s.t ++ [x]⟩ else s
theorem step_yes (m o : Nat → Nat) (s : Os) (x : Kt) (h : offB s.c m o x = true) : stepO m o s x = ⟨takeL s.L x, takeC s.c x, s.t ++ [x]⟩ := if_pos h
theorem step_no (m o : Nat → Nat) (s : Os) (x : Kt) (h : offB s.c m o x = false) : stepO m o s x = s := if_neg (by simp [h])
theorem takeC_lt (c : Nat → Nat) (x : Kt) (hc : ∀ i, c i < 4294967296) (i : Nat) : takeC c x i < 4294967296 := by
 unfold takeC put8
 split
 ·exact x.lt
 ·exact hc i
theorem step_lt (m o : Nat → Nat) (s : Os) (x : Kt) (hc : ∀ i, s.c i < 4294967296) (i : Nat) : (stepO m o s x).c i < 4294967296 := by
 unfold stepO
 split
 ·exact takeC_lt _ _ hc i
 ·exact hc i
theorem step_len (m o : Nat → Nat) (s : Os) (x : Kt) : (stepO m o s x).L.length ≤ s.L.length + 1 := by
 unfold stepO
 split
 ·exact takeL_len x s.L
 ·omega
theorem step_tlen (m o : Nat → Nat) (s : Os) (x : Kt) : (stepO m o s x).t.length ≤ s.t.length + 1 := by
 unfold stepO
 split
 ·simp
 ·omega
structure OfS (n K T B : Nat) (m o : Nat → Nat) (p : Pk) (s : Os) (w : World) : Prop where
 c : Blk n (mbc s.c) 60 w
 m : Blk (n + 1) (mbc m) 55 w
 p : Blk (n + 1 + 1) (pkc p) 116 w
 o : Blk (n + 1 + 1 + 1) (mbc o) 60 w
 r : Blk (n + 1 + 1 + 1 + 1) (mbc noMb) 60 w
 k : ∃ a k, Blk K #[.slice a s.L.length k] 73 w ∧ Li Kt.vals (n + 1 + 1 + 1 + 1 + 1) a s.L w
 t : ∃ a k, Blk T #[.slice a s.t.length k] 73 w ∧ Lg Kt.vals 38 53 B a k s.t w
 h1 : n + 1 + 1 + 1 + 1 < K
 h2 : K < T
 h3 : T < B
 h4 : B ≤ w.heap.size
theorem OfS.below {n K T B : Nat} {m o : Nat → Nat} {p : Pk} {s : Os} {w w' : World} (h : OfS n K T B m o p s w) (hb : Below w.heap.size w w') : OfS n K T B m o p s w' := by
 obtain ⟨hc, hm, hp, ho, hr, ⟨a, k, hk, hl⟩, ⟨b, j, ht, hg⟩, h1, h2, h3, h4⟩ := h
 exact ⟨hc.below hb, hm.below hb, hp.below hb, ho.below hb, hr.below hb, ⟨a, k, hk.below hb, hl.below hb⟩, ⟨b, j, ht.below hb, hg.below hb⟩, h1, h2, h3, Nat.le_trans h4 hb.size⟩
theorem sizeSl : (Tryz.prog.info? 73).map (·.size) = some 1 := by kernel_rfl
set_option maxHeartbeats 8000000 in
theorem offer1_ok (n K T B : Nat) (m o : Nat → Nat) (p : Pk) (s : Os) (fr rd : Nat) (f : Nat → En) (hrd : rd < 4294967296) (hc : ∀ i, s.c i < 4294967296) (hL : (s.L.length + 1) * 352 ≤ 140737488355328) (hT : s.t.length ≤ 10) (w : World) (hS : OfS n K T B m o p s w) :
  Calls Tryz.prog 216 #[.int .u32 (fr : Int), .int .u32 (rd : Int), .agg (frc f), .pointer (some ⟨n + 1 + 1 + 1, 0, none⟩), .pointer (some ⟨K, 0, none⟩), .pointer (some ⟨n, 0, none⟩), .pointer (some ⟨n + 1, 0, none⟩), .pointer (some ⟨T, 0, none⟩)] w
   fun e w' => e = .returned (.tuple #[]) ∧ OfS n K T B m o p (stepO m o s (Kt.mk (fr : Int) rd f hrd)) w' ∧ Below n w w' := by
 obtain ⟨iI, zI, hI, hz0, hsz, hby, hzs⟩ := infoKt
 have b1 := blk_new w (frc f) 43
 have hb0 : Below w.heap.size w (w.alloc (.cells (frc f) 43)) := below_box w _
 have hS1 := hS.below hb0
 have hnw : n ≤ w.heap.size := by have := hS.h1; have := hS.h2; have := hS.h3; have := hS.h4; omega
 have hB : Below n w (w.alloc (.cells (frc f) 43)) := hb0.mono hnw
 have hv : w.heap.size < (w.alloc (.cells (frc f) 43)).heap.size := by simp
 have hBw := hS.h4
 have hpa : ∀ c d, putAt (mbc c) 0 (mbc d).toList = mbc d := fun c d => putAt_all _ _ rfl
 obtain ⟨W, hW⟩ : ∃ W, w.alloc (.cells (frc f) 43) = W := ⟨_, rfl⟩
 rw [hW] at b1 hb0 hS1 hB hv
 by_cases h8 : fr < 8
 rotate_left
 ·rw [step_no m o s _ (by simp [offB]; omega)]
  have g0 : decide ((8 : Int) ≤ (fr : Int)) = true := by simp; omega
  clear b1 hb0 hS hI
  go_enter Tryz.func216, Tryz.ntmps216
  go_wp2_with fail
  exact bodyPost_ret (v := .tuple #[]) (results_none rfl _ _ _) rfl ⟨rfl, hS1, hB⟩
 have f0 : ¬ (8 : Int) ≤ (fr : Int) := by omega
 have f1 : (fr : Int) < 8 := by omega
 have f2 : (0 : Int) ≤ (fr : Int) := by omega
 have q0 := hS1.o.cell fr _ (mbc_get o fr h8)
 by_cases hm : rd ≤ o fr
 rotate_left
 ·rw [step_no m o s _ (by simp [offB]; omega)]
  have g1 : (o fr : Int) < (rd : Int) := by omega
  clear b1 hb0 hS hI
  go_enter Tryz.func216, Tryz.ntmps216
  go_wp2_with fail
  exact bodyPost_ret (v := .tuple #[]) (results_none rfl _ _ _) rfl ⟨rfl, hS1, hB⟩
 have g1 : ¬ (o fr : Int) < (rd : Int) := by omega
 have hob : offB s.c m o (Kt.mk (fr : Int) rd f hrd) = takesB s.c m (Kt.mk (fr : Int) rd f hrd) := by
  have e1 : decide (0 ≤ (Kt.mk (fr : Int) rd f hrd).fr ∧ (Kt.mk (fr : Int) rd f hrd).fr < 8) = true := by simp; omega
  have e2 : decide ((Kt.mk (fr : Int) rd f hrd).rd ≤ o (Kt.mk (fr : Int) rd f hrd).fr.toNat) = true := by simp; omega
  rw [offB, e1, e2, Bool.true_and, Bool.true_and]
 have b4 := blk_new W (Kt.mk (fr : Int) rd f hrd).arr 53
 have hb1 : Below W.heap.size W (W.alloc (.cells (Kt.mk (fr : Int) rd f hrd).arr 53)) := below_box W _
 have hS2 := hS1.below hb1
 have hBV := hB.trans (hb1.mono (Nat.le_trans hnw hB.size))
 have hbT := hS1.h4
 cases htb : takesB s.c m (Kt.mk (fr : Int) rd f hrd) with
 | false =>
  rw [htb] at hob
  rw [step_no m o s _ hob]
  clear hS hob
  go_enter Tryz.func216, Tryz.ntmps216
  go_upto_region 4 with (first | refine load_blk rfl 43 _ rfl b1 rfl Tryz.underlying43 rfl sizeFr ?_ | refine build_as rfl 53 #[(0, .tmp 23), (1, .tmp 24), (2, .tmp 25)] rfl (C := (Kt.mk (fr : Int) rd f hrd).arr) (by kernel_rfl) ?_ | refine alloc_zero zeroKt rfl rfl ?_ | refine store_new rfl 53 _ _ rfl (cells := (Kt.mk (fr : Int) rd f hrd).arr) rfl rfl sizeKt rfl (Kt.arr_one _) ?_)
  try simp only [Act.put]
  generalize W.alloc (Obj.cells (Kt.mk (fr : Int) rd f hrd).arr 53) = V at b4 hb1 hS2 hBV ⊢
  obtain ⟨hc', hm', hp', ho', hr', ⟨ka, kk, hk, hkl⟩, ⟨ta, tk, ht, htg⟩, h1, h2, h3, h4⟩ := hS2
  have kc : V.cell? ⟨K, 0, none⟩ = some (.slice ka s.L.length kk) := hk.cell 0 _ rfl
  clear b1 hb0 hb1 hS1 hB q0
  have hkV : K < V.heap.size := hk.lt
  have hnV : n < V.heap.size := hc'.lt
  go_wp2_with (first | refine load_blk rfl 60 _ rfl hc' rfl Tryz.underlying60 rfl sizeCt ?_ | refine load_blk rfl 55 _ rfl hm' rfl Tryz.underlying55 rfl sizeMb ?_ | refine load_blk rfl 53 _ rfl b4 rfl Tryz.underlying53 rfl sizeKt ?_)
  refine (take_no s.L ka kk s.c m (Kt.mk (fr : Int) rd f hrd) hc (by omega) htb V (hkl.mono (Nat.zero_le _))).mono ?_
  rintro r w1 ⟨⟨a', c', rfl, hl'⟩, hb⟩
  have sV := hb.size
  replace hc' := hc'.below hb
  replace hm' := hm'.below hb
  replace hp' := hp'.below hb
  replace ho' := ho'.below hb
  replace hr' := hr'.below hb
  replace hk := hk.below hb
  replace ht := ht.below hb
  have htg0 := htg.in
  replace htg := htg.below hb
  replace b4 := b4.below hb
  replace hBV := hBV.trans (hb.mono (Nat.le_trans hnw hBV.size))
  clear hb hkl kc
  go_upto_region 5 with (first | (refine store_one rfl 73 _ _ rfl (off := 0) (.slice a' s.L.length c') hk rfl rfl rfl rfl sizeSl (by simp) ?_; intro w2 b2 k2; replace hc' := hc'.kp1 k2 (by omega); have hl2 := hl'.kp k2 (by simp; exact hkV)) | (refine store_part rfl 60 _ _ rfl (off := 0) (cells := mbc s.c) hc' rfl rfl sizeCt (Nat.le_refl _) (mbc_one _) ?_; intro w3 b3 k3; rw [hpa] at b3))
  try simp only [Act.put]
  replace hm' := (hm'.kp1 k2 (by omega)).kp1 k3 (by omega)
  replace hp' := (hp'.kp1 k2 (by omega)).kp1 k3 (by omega)
  replace ho' := (ho'.kp1 k2 (by omega)).kp1 k3 (by omega)
  replace hr' := (hr'.kp1 k2 (by omega)).kp1 k3 (by omega)
  replace ht := (ht.kp1 k2 (by omega)).kp1 k3 (by omega)
  replace htg := (htg.kp k2 (by simp; omega)).kp k3 (by simp; omega)
  replace b4 := (b4.kp1 k2 (by omega)).kp1 k3 (by omega)
  replace b2 := b2.kp1 k3 (by omega)
  replace hl2 := hl2.kp k3 (by simp; omega)
  replace hBV := (hBV.trans (k2.below1 (by omega) (Nat.le_trans hnw hBV.size))).trans (k3.below1 (Nat.le_refl _) (Nat.le_trans (Nat.le_trans hnw hBV.size) k2.size))
  have hs3 : V.heap.size ≤ w3.heap.size := Nat.le_trans sV (Nat.le_trans k2.size k3.size)
  clear hc' hl' hk k2 k3
  have hfin : OfS n K T B m o p s w3 := ⟨b3, hm', hp', ho', hr', ⟨a', c', b2, hl2.mono (by omega)⟩, ⟨ta, tk, ht, htg⟩, h1, h2, h3, by omega⟩
  clear b2 b3 b4 hm' hp' ho' hr' hl2 ht htg
  go_wp2_with fail
  go_end0
  exact ⟨rfl, hfin, hBV⟩
 | true =>
  rw [htb] at hob
  rw [step_yes m o s _ hob]
  clear hS hob
  go_enter Tryz.func216, Tryz.ntmps216
  go_upto_region 4 with (first | refine load_blk rfl 43 _ rfl b1 rfl Tryz.underlying43 rfl sizeFr ?_ | refine build_as rfl 53 #[(0, .tmp 23), (1, .tmp 24), (2, .tmp 25)] rfl (C := (Kt.mk (fr : Int) rd f hrd).arr) (by kernel_rfl) ?_ | refine alloc_zero zeroKt rfl rfl ?_ | refine store_new rfl 53 _ _ rfl (cells := (Kt.mk (fr : Int) rd f hrd).arr) rfl rfl sizeKt rfl (Kt.arr_one _) ?_)
  try simp only [Act.put]
  generalize W.alloc (Obj.cells (Kt.mk (fr : Int) rd f hrd).arr 53) = V at b4 hb1 hS2 hBV ⊢
  obtain ⟨hc', hm', hp', ho', hr', ⟨ka, kk, hk, hkl⟩, ⟨ta, tk, ht, htg⟩, h1, h2, h3, h4⟩ := hS2
  have kc : V.cell? ⟨K, 0, none⟩ = some (.slice ka s.L.length kk) := hk.cell 0 _ rfl
  clear b1 hb0 hb1 hS1 hB q0
  have hkV : K < V.heap.size := hk.lt
  have hnV : n < V.heap.size := hc'.lt
  go_wp2_with (first | refine load_blk rfl 60 _ rfl hc' rfl Tryz.underlying60 rfl sizeCt ?_ | refine load_blk rfl 55 _ rfl hm' rfl Tryz.underlying55 rfl sizeMb ?_ | refine load_blk rfl 53 _ rfl b4 rfl Tryz.underlying53 rfl sizeKt ?_)
  refine (take_yes s.L ka kk s.c m (Kt.mk (fr : Int) rd f hrd) hc hL htb V (hkl.mono (Nat.zero_le _))).mono ?_
  rintro r w1 ⟨⟨a', c', rfl, hl'⟩, hb⟩
  have sV := hb.size
  replace hc' := hc'.below hb
  replace hm' := hm'.below hb
  replace hp' := hp'.below hb
  replace ho' := ho'.below hb
  replace hr' := hr'.below hb
  replace hk := hk.below hb
  replace ht := ht.below hb
  have htg0 := htg.in
  replace htg := htg.below hb
  replace b4 := b4.below hb
  replace hBV := hBV.trans (hb.mono (Nat.le_trans hnw hBV.size))
  clear hb hkl kc
  go_upto_region 5 with (first | (refine store_one rfl 73 _ _ rfl (off := 0) (.slice a' (takeL s.L (Kt.mk (fr : Int) rd f hrd)).length c') hk rfl rfl rfl rfl sizeSl (by simp) ?_; intro w2 b2 k2; replace hc' := hc'.kp1 k2 (by omega); have hl2 := hl'.kp k2 (by simp; exact hkV)) | (refine store_part rfl 60 _ _ rfl (off := 0) (cells := mbc (takeC s.c (Kt.mk (fr : Int) rd f hrd))) hc' rfl rfl sizeCt (Nat.le_refl _) (mbc_one _) ?_; intro w3 b3 k3; rw [hpa] at b3))
  try simp only [Act.put]
  replace hm' := (hm'.kp1 k2 (by omega)).kp1 k3 (by omega)
  replace hp' := (hp'.kp1 k2 (by omega)).kp1 k3 (by omega)
  replace ho' := (ho'.kp1 k2 (by omega)).kp1 k3 (by omega)
  replace hr' := (hr'.kp1 k2 (by omega)).kp1 k3 (by omega)
  replace ht := (ht.kp1 k2 (by omega)).kp1 k3 (by omega)
  replace htg := (htg.kp k2 (by simp; omega)).kp k3 (by simp; omega)
  replace b4 := (b4.kp1 k2 (by omega)).kp1 k3 (by omega)
  replace b2 := b2.kp1 k3 (by omega)
  replace hl2 := hl2.kp k3 (by simp; omega)
  replace hBV := (hBV.trans (k2.below1 (by omega) (Nat.le_trans hnw hBV.size))).trans (k3.below1 (Nat.le_refl _) (Nat.le_trans (Nat.le_trans hnw hBV.size) k2.size))
  have hs3 : V.heap.size ≤ w3.heap.size := Nat.le_trans sV (Nat.le_trans k2.size k3.size)
  clear hc' hl' hk k2 k3
  have t0 : w3.cell? ⟨T, 0, none⟩ = some (.slice ta s.t.length tk) := ht.cell 0 _ rfl
  have hb5 := below_box w3 (.cells (Kt.mk (fr : Int) rd f hrd).arr 53)
  have hg2 := htg.below hb5
  have hx := (li_box (f := Kt.vals) w3 (Kt.mk (fr : Int) rd f hrd) 53 0 (Nat.zero_le _)).src (P := Tryz.prog) Kt.vals_length Kt.vals_one Tryz.underlying73 1
  have hs5 : B ≤ (w3.alloc (.cells (Kt.mk (fr : Int) rd f hrd).arr 53)).heap.size := by have := hb5.size; omega
  have hno : ∀ A, A < B → A ∉ blkOf ta := fun A hA hm => absurd (htg0 A hm).1 (by omega)
  have ht3 := ht.below hb5
  have hBl : ∀ k ∈ blkOf ta, n ≤ k := fun k hm => by have := (htg0 k hm).1; omega
  go_wp2_with (first | refine load_blk rfl 53 _ rfl b4 rfl Tryz.underlying53 rfl sizeKt ?_ | refine box_kt rfl _ rfl (Kt.mk (fr : Int) rd f hrd) rfl ?_ | (refine append_lk Kt.vals_length rfl _ _ rfl Tryz.underlying73 hI hz0 hsz hby hzs hg2 hs5 rfl rfl (M := [(Kt.mk (fr : Int) rd f hrd)]) (by simp) hx rfl (by simp only [List.length_cons, List.length_nil]; omega) (by simp only [List.length_cons, List.length_nil, maxLen]; omega) ?_; intro ad' cap' w5 hg5 hk5; have ht5 := ht3.kp hk5 (hno T (by omega))) | (refine store_one rfl 73 _ _ rfl (off := 0) (.slice ad' (s.t.length + [(Kt.mk (fr : Int) rd f hrd)].length) cap') ht5 rfl rfl rfl rfl sizeSl (by simp) ?_; intro w6 b6 k6))
  go_end0
  have hK6 : ∀ A C U, Blk A C U w3 → A < T → Blk A C U w6 := fun A C U h hA => ((h.below hb5).kp hk5 (hno A (by omega))).kp1 k6 (by omega)
  have hB5 := hBV.trans (hb5.mono (Nat.le_trans hnw hBV.size))
  have hB6 := hB5.trans (hk5.below hBl (Nat.le_trans hnw hB5.size))
  have hB7 := hB6.trans (k6.below1 (by omega) (Nat.le_trans hnw hB6.size))
  have s6 : w3.heap.size ≤ w6.heap.size := Nat.le_trans hb5.size (Nat.le_trans hk5.size k6.size)
  have l6 : Li Kt.vals (n + 1 + 1 + 1 + 1 + 1) a' (takeL s.L (Kt.mk (fr : Int) rd f hrd)) w6 := (((hl2.below hb5).kp hk5 (fun k hm => (htg0 k hm).2)).kp k6 (by simp; omega)).mono (by omega)
  exact ⟨rfl, ⟨hK6 _ _ _ b3 (by omega), hK6 _ _ _ hm' (by omega), hK6 _ _ _ hp' (by omega), hK6 _ _ _ ho' (by omega), hK6 _ _ _ hr' (by omega), ⟨a', c', hK6 _ _ _ b2 (by omega), l6⟩, ⟨ad', cap', by simpa using b6, hg5.kp k6 (by simp; omega)⟩, h1, h2, h3, by omega⟩, hB7⟩
end Go.Proofs.YthgfpdidilolgaaGreat
namespace Go.Proofs.YthgfpdidilolgaaGreat
set_option maxRecDepth 10000
set_option linter.unusedSimpArgs false
open Go.RowKit Go.Sort
set_option linter.unusedVariables false
def kO (p : Pk) : Kt := ⟨(p.n 0 : Int), p.n 34 - 1, p.f1, by have := p.lt 34; omega⟩
def kN (p : Pk) : Kt := ⟨(p.n 0 : Int), p.n 34, p.f0, p.lt 34⟩
def kR (p : Pk) : Kt := ⟨(p.n 107 : Int), p.n 108, p.f2, p.lt 108⟩
def firstO (m o : Nat → Nat) (p : Pk) (s : Os) : Os := if 1 < p.n 34 then stepO m o s (kO p) else s
def offO (m o : Nat → Nat) (p : Pk) (s : Os) : Os := stepO m o (stepO m o (firstO m o p s) (kN p)) (kR p)
def OfferedB (s : Os) (B : Nat) (e : Ending) (w' : World) : Prop := ∃ a k b j, e = .returned (.tuple #[.slice a s.L.length k, .agg (mbc s.c), .slice b s.t.length j]) ∧ Li Kt.vals B a s.L w' ∧ Li Kt.vals B b s.t w'
theorem alloc_one {P : Program} {T : TypeId} {v : Value} (hz : (P.info? T).map (fun i => (i.zero, i.size)) = some (some v, 1)) (hv : v.cells = #[v]) {ops : Array Oper} {rest : List Oper} {o : Oper} {a : Act} {w : World} {Q : Exit → Act → World → Prop} (hgd : o.guard = none) (ho : o.op = .alloc T)
  (h : wpList P ops Q rest (a.put o.dst (.pointer (some ⟨w.heap.size, 0, none⟩))) (w.alloc (.cells #[v] T))) : wpList P ops Q (o :: rest) a w :=
 wpList_plain hgd fun _ hK => by
  have hz := (zero_of_info hz).1
  rw [← hv] at h
  have hk := hK _ _ h
  unfold Oper.wp execOp
  simp only [ho, Instr.alloc, Sem.run_bind, hz, Result.andThen_ok]
  exact hk
theorem zeroSl : (Tryz.prog.info? 73).map (fun i => (i.zero, i.size)) = some (some (.slice none 0 0), 1) := by kernel_rfl
theorem Li.keeps {a : Option Addr} {c : Nat} {B b : Nat} {L : List Kt} {w w' : World} (h : Li Kt.vals B a L w) (hg : Lg Kt.vals 38 53 B a c L w) (hk : Kp [b] w w') (hb : b ∉ blkOf a) : Li Kt.vals B a L w' :=
 h.kept hk (fun g o e hm => hb (by simp at hm; subst hm; rw [e]; simp [blkOf]))
set_option maxHeartbeats 8000000 in
theorem offer_new (L : List Kt) (la : Option Addr) (lc : Nat) (c m o : Nat → Nat) (p : Pk) (hc : ∀ i, c i < 4294967296) (hl : L.length * 352 ≤ 140737488351232) (w : World) (lS : Li Kt.vals 0 la L w) :
  Calls Tryz.prog 197 #[.slice la L.length lc, .agg (mbc c), .agg (mbc m), .agg (pkc p), .agg (mbc o)] w fun e w' => OfferedB (offO m o p (Os.mk L c [])) w.heap.size e w' ∧ Below w.heap.size w w' := by
 have hmf : ∀ (fn : Fn) (first cap : Array Value) (w : World), (Instr.makeFunc fn first cap).run Tryz.prog w = .ok (.func fn first cap) w := fun _ _ _ _ => rfl
 obtain ⟨a0, a1, a2, a3, a4, hB⟩ := five_blk (T0 := 60) (T1 := 55) (T2 := 116) (T3 := 60) (T4 := 60) (C0 := mbc c) (C1 := mbc m) (C2 := pkc p) (C3 := mbc o) (C4 := mbc noMb) (w := w) rfl
 obtain ⟨S3, hS3⟩ : ∃ S3, Hid (offO m o p (Os.mk L c []) = S3) := ⟨_, rfl⟩
 rw [hS3.out]
 go_enter Tryz.func197, Tryz.ntmps197
 go_upto_region 1 with (refine alloc_zero zeroCt rfl rfl ?_)
 try simp only [Act.put, List.setIfInBounds_toArray, List.set_cons_zero, List.set_cons_succ]
 try simp only [alloc_size]
 generalize ((((w.alloc (Obj.cells (mbc c) 60)).alloc (Obj.cells (mbc m) 55)).alloc (Obj.cells (pkc p) 116)).alloc (Obj.cells (mbc o) 60)).alloc (Obj.cells (mbc noMb) 60) = W at a0 a1 a2 a3 a4 hB ⊢
 go_wp2_with fail
 refine (clone_ok L la lc (by omega) W (lS.below hB)).mono ?_
 rintro r w1 ⟨⟨ad, cap, rfl, cl⟩, hb⟩
 have hW4 := a4.lt
 have hWw := hb.size
 replace a0 := a0.below hb
 replace a1 := a1.below hb
 replace a2 := a2.below hb
 replace a3 := a3.below hb
 replace a4 := a4.below hb
 replace hB := hB.trans (hb.mono hB.size)
 clear hb lS
 have b1 := blk_new w1 #[.slice none 0 0] 73
 have hb1 : Below w1.heap.size w1 (w1.alloc (.cells #[.slice none 0 0] 73)) := below_box w1 _
 go_upto_region 2 with (first | refine alloc_one zeroSl rfl rfl rfl ?_ | (refine store_one rfl 73 _ _ rfl (off := 0) (.slice ad L.length cap) b1 rfl rfl rfl rfl sizeSl (by simp) ?_; intro w2 b2 k2))
 try simp only [Act.put]
 have hL2 : ∀ A C U, A < w1.heap.size → Blk A C U w1 → Blk A C U w2 := fun A C U hA h => (h.below hb1).kp1 k2 (by omega)
 replace a0 := hL2 _ _ _ (by omega) a0
 replace a1 := hL2 _ _ _ (by omega) a1
 replace a2 := hL2 _ _ _ (by omega) a2
 replace a3 := hL2 _ _ _ (by omega) a3
 replace a4 := hL2 _ _ _ (by omega) a4
 have hkl : Li Kt.vals (w.heap.size + 1 + 1 + 1 + 1 + 1) ad L w2 := ((cl.below hb1).li.keeps (cl.below hb1) k2 (fun hm => absurd (cl.in _ hm).2 (Nat.lt_irrefl _))).mono (by omega)
 replace b2 : Blk w1.heap.size #[.slice ad L.length cap] 73 w2 := b2
 have hB2 := hB.trans (hb1.mono hB.size)
 replace hB := hB2.trans (k2.below1 hB.size hB2.size)
 have hs2 := b2.lt
 have hwK : w.heap.size + 1 + 1 + 1 + 1 < w1.heap.size := by omega
 clear b1 hb1 k2 hL2 cl hB2
 generalize w1.heap.size = K at *
 have b3 := blk_new w2 #[.slice none 0 0] 73
 have hb3 : Below w2.heap.size w2 (w2.alloc (.cells #[.slice none 0 0] 73)) := below_box w2 _
 have hs3 : w2.heap.size < (w2.alloc (.cells #[.slice none 0 0] 73)).heap.size := by simp
 go_upto_region 3 with (refine alloc_one zeroSl rfl rfl rfl ?_)
 try simp only [Act.put]
 generalize w2.alloc (Obj.cells #[Value.slice none 0 0] 73) = V at b3 hb3 hs3 ⊢
 obtain ⟨B, hBd⟩ : ∃ B, Hid (V.heap.size = B) := ⟨_, rfl⟩
 have hS : OfS w.heap.size K w2.heap.size B m o p (Os.mk L c []) V := ⟨a0.below hb3, a1.below hb3, a2.below hb3, a3.below hb3, a4.below hb3, ⟨ad, cap, b2.below hb3, hkl.below hb3⟩, ⟨none, 0, b3, Lg.none _ _ _⟩, hwK, hs2, by rw [← hBd.out]; exact hs3, by rw [hBd.out]; exact Nat.le_refl _⟩
 replace hB := hB.trans (hb3.mono hB.size)
 clear b3 hb3 hs3 hkl b2 a0 a1 a2 a3 a4 hBd
 generalize w2.heap.size = T at *
 have q34 := hS.p.cell 34 _ (pk_get34 p)
 by_cases h1 : 1 < p.n 34
 ·have g1 : (1 : Int) < (p.n 34 : Int) := by omega
  have e34 : (p.n 34 : Int) - 1 = ((p.n 34 - 1 : Nat) : Int) := by omega
  have hp34 := p.lt 34
  have hS3 : Hid (stepO m o (stepO m o (stepO m o (Os.mk L c []) (kO p)) (kN p)) (kR p) = S3) := by
   have := hS3.out
   rw [offO, firstO, if_pos h1] at this
   exact this
  have d0 := hS.p
  have c0 := d0.cell 0 _ (pk_get0 p)
  have e0 := d0.cell 34 _ (pk_get34 p)
  have pp := offer1_ok w.heap.size K T B m o p (Os.mk L c []) (p.n 0) (p.n 34 - 1) p.f1 (kO p).lt hc (by show (L.length + 1) * 352 ≤ _; omega) (by simp) _ hS
  rw [← e34] at pp
  clear e34
  go_wp2_with (refine load_part rfl 43 _ rfl (o := 71) d0 rfl (frv p.f1) (part_f1 p) Tryz.underlying43 rfl sizeFr ?_)
  refine pp.mono ?_
  rintro r v0 ⟨rfl, hS', hb⟩
  replace hB := hB.trans hb
  replace hS : OfS w.heap.size K T B m o p (stepO m o (Os.mk L c []) (kO p)) v0 := hS'
  clear hb pp d0 c0 e0 hS'
  clear g1 q34 hp34
  have hc1 := step_lt m o (Os.mk L c []) (kO p) hc
  have hle : (stepO m o (Os.mk L c []) (kO p)).L.length ≤ L.length + 1 := step_len m o (Os.mk L c []) (kO p)
  have hlt : (stepO m o (Os.mk L c []) (kO p)).t.length ≤ 1 := step_tlen m o (Os.mk L c []) (kO p)
  have hl1 : ((stepO m o (Os.mk L c []) (kO p)).L.length + 1) * 352 ≤ 140737488355328 := by omega
  have ht1 : (stepO m o (Os.mk L c []) (kO p)).t.length ≤ 10 := by omega
  have d1 := hS.p
  have c1 := d1.cell 0 _ (pk_get0 p)
  have e1 := d1.cell 34 _ (pk_get34 p)
  have pp := offer1_ok w.heap.size K T B m o p (stepO m o (Os.mk L c []) (kO p)) (p.n 0) (p.n 34) p.f0 (p.lt 34) hc1 hl1 ht1 _ hS
  go_wp2_with (refine load_part rfl 43 _ rfl (o := 35) d1 rfl (frv p.f0) (part_f0 p) Tryz.underlying43 rfl sizeFr ?_)
  refine pp.mono ?_
  rintro r v1 ⟨rfl, hS', hb⟩
  replace hB := hB.trans hb
  replace hS : OfS w.heap.size K T B m o p (stepO m o (stepO m o (Os.mk L c []) (kO p)) (kN p)) v1 := hS'
  clear hb pp d1 c1 e1 hS'
  have hc2 := step_lt m o (stepO m o (Os.mk L c []) (kO p)) (kN p) hc1
  have hl2 : ((stepO m o (stepO m o (Os.mk L c []) (kO p)) (kN p)).L.length + 1) * 352 ≤ 140737488355328 := by have := step_len m o (stepO m o (Os.mk L c []) (kO p)) (kN p); omega
  have ht2 : (stepO m o (stepO m o (Os.mk L c []) (kO p)) (kN p)).t.length ≤ 10 := by have := step_tlen m o (stepO m o (Os.mk L c []) (kO p)) (kN p); omega
  have d2 := hS.p
  have c2 := d2.cell 107 _ (pk_get107 p)
  have e2 := d2.cell 108 _ (pk_get108 p)
  have pp := offer1_ok w.heap.size K T B m o p (stepO m o (stepO m o (Os.mk L c []) (kO p)) (kN p)) (p.n 107) (p.n 108) p.f2 (p.lt 108) hc2 hl2 ht2 _ hS
  go_wp2_with (refine load_part rfl 43 _ rfl (o := 109) d2 rfl (frv p.f2) (part_f2 p) Tryz.underlying43 rfl sizeFr ?_)
  refine pp.mono ?_
  rintro r v2 ⟨rfl, hS', hb⟩
  replace hB := hB.trans hb
  replace hS : OfS w.heap.size K T B m o p (stepO m o (stepO m o (stepO m o (Os.mk L c []) (kO p)) (kN p)) (kR p)) v2 := hS'
  clear hb pp d2 c2 e2 hS'
  generalize hsz : stepO m o _ (kR p) = sz at hS
  obtain rfl : S3 = sz := hS3.out.symm.trans hsz
  clear hsz
  obtain ⟨hc', hm', hp', ho', res, ⟨a3, k3, hk3, hkl⟩, ⟨b3, j3, ht3, htg⟩, h1, h2, h3, h4⟩ := hS
  clear hm' hp' ho' hS3
  go_upto_region 8 with fail
  try simp only [Act.put]
  replace hB := hB.drew
  replace res := res.drew
  replace hkl : Li Kt.vals (w.heap.size + 1 + 1 + 1 + 1 + 1) a3 S3.L (v2.drew) := hkl.below (Below.refl _ _).drew
  replace htg : Lg Kt.vals 38 53 B b3 j3 S3.t (v2.drew) := htg.below (Below.refl _ _).drew
  refine wp_region_held_drew (S := fun w' => Blk K #[.slice a3 S3.L.length k3] 73 w' ∧ (Blk w.heap.size (mbc S3.c) 60 w' ∧ Blk T #[.slice b3 S3.t.length j3] 73 w')) (by kernel_rfl) ⟨hk3.drew, hc'.drew, ht3.drew⟩ (fun hHeld => ?_)
  refine tkH 0 (v := ?v1) rfl (by kernel_rfl) (fun _ _ _ h => h) (Or.inl ⟨by rfl, ?hy1⟩) hHeld ?_
  case hy1 => (intro w hSw; have kc : w.cell? ⟨K, 0, none⟩ = some (.slice a3 S3.L.length k3) := hSw.1.cell 0 _ rfl; clear hSw; go_simp; try with_reducible rfl)
  try simp only [yy]
  refine' tkH 1 (v := _) rfl (by kernel_rfl) (fun _ _ _ h => h) (yieldsIf_load_mid (by rfl) _ _ rfl w.heap.size 0 rfl (mbc S3.c).toList _ ?hS2 Tryz.underlying60 rfl sizeCt) hHeld ?_
  case hS2 => exact fun w h => h.2.1.whole
  try simp only [yy]
  refine tkH 2 (v := ?v3) rfl (by kernel_rfl) (fun _ _ _ h => h) (Or.inl ⟨by rfl, ?hy3⟩) hHeld ?_
  case hy3 => (intro w hSw; have kc : w.cell? ⟨T, 0, none⟩ = some (.slice b3 S3.t.length j3) := hSw.2.2.cell 0 _ rfl; clear hSw; go_simp; try with_reducible rfl)
  try simp only [yy]
  refine tkQ 3 hHeld ?_
  try simp only [yy]
  refine wpAnyH_ready (rs := [4]) (by kernel_rfl) (by simp) ?_
  refine AllReadyH.cons rfl (fun KK hK => ?_) (AllReadyH.nil)
  rw [if_pos (by rfl)]
  refine wp_store_all 60 _ _ rfl (cells := mbc S3.c) res rfl rfl sizeCt rfl (mbc_one _) ?_
  intro u hn hk
  replace hkl := hkl.kp hk (by simp)
  replace htg := htg.kp hk (by simp; omega)
  replace hB := hB.trans (hk.below1 (by omega) hB.size)
  refine hK.out _ _ ⟨hHeld.1.kp1 hk (by omega), hHeld.2.1.kp1 hk (by omega), hHeld.2.2.kp1 hk (by omega)⟩ (fun hHeld => ?_)
  clear hK KK hk
  try simp only [yy]
  refine tkQ 5 hHeld ?_
  try simp only [yy]
  refine wpAnyH_done (by kernel_rfl) ?_ _
  go_wp2_with fail
  refine bodyPost_ret (w := u) (v := .tuple #[.slice a3 S3.L.length k3, .agg (mbc S3.c), .slice b3 S3.t.length j3]) ?_ rfl ⟨⟨a3, k3, b3, j3, rfl, hkl.mono (by omega), htg.li.mono (by omega)⟩, hB⟩
  exact ret_tct rfl rfl hn Tryz.underlying60 rfl sizeCt rfl rfl
 ·have g1 : ¬ (1 : Int) < (p.n 34 : Int) := by omega
  have hS3 : Hid (stepO m o (stepO m o (Os.mk L c []) (kN p)) (kR p) = S3) := by
   have := hS3.out
   rw [offO, firstO, if_neg h1] at this
   exact this
  obtain ⟨s0, hs0⟩ : ∃ s0, Os.mk L c [] = s0 := ⟨_, rfl⟩
  rw [hs0] at hS hS3
  have hc1 : ∀ i, s0.c i < 4294967296 := by rw [← hs0]; exact hc
  have hle : s0.L.length ≤ L.length + 1 := by rw [← hs0]; show L.length ≤ _; omega
  have hlt : s0.t.length ≤ 1 := by rw [← hs0]; simp
  clear hs0
  have hl1 : (s0.L.length + 1) * 352 ≤ 140737488355328 := by omega
  have ht1 : s0.t.length ≤ 10 := by omega
  have d1 := hS.p
  have c1 := d1.cell 0 _ (pk_get0 p)
  have e1 := d1.cell 34 _ (pk_get34 p)
  have pp := offer1_ok w.heap.size K T B m o p s0 (p.n 0) (p.n 34) p.f0 (p.lt 34) hc1 hl1 ht1 _ hS
  go_wp2_with (refine load_part rfl 43 _ rfl (o := 35) d1 rfl (frv p.f0) (part_f0 p) Tryz.underlying43 rfl sizeFr ?_)
  refine pp.mono ?_
  rintro r v1 ⟨rfl, hS', hb⟩
  replace hB := hB.trans hb
  replace hS : OfS w.heap.size K T B m o p (stepO m o s0 (kN p)) v1 := hS'
  clear hb pp d1 c1 e1 hS'
  have hc2 := step_lt m o s0 (kN p) hc1
  have hl2 : ((stepO m o s0 (kN p)).L.length + 1) * 352 ≤ 140737488355328 := by have := step_len m o s0 (kN p); omega
  have ht2 : (stepO m o s0 (kN p)).t.length ≤ 10 := by have := step_tlen m o s0 (kN p); omega
  have d2 := hS.p
  have c2 := d2.cell 107 _ (pk_get107 p)
  have e2 := d2.cell 108 _ (pk_get108 p)
  have pp := offer1_ok w.heap.size K T B m o p (stepO m o s0 (kN p)) (p.n 107) (p.n 108) p.f2 (p.lt 108) hc2 hl2 ht2 _ hS
  go_wp2_with (refine load_part rfl 43 _ rfl (o := 109) d2 rfl (frv p.f2) (part_f2 p) Tryz.underlying43 rfl sizeFr ?_)
  refine pp.mono ?_
  rintro r v2 ⟨rfl, hS', hb⟩
  replace hB := hB.trans hb
  replace hS : OfS w.heap.size K T B m o p (stepO m o (stepO m o s0 (kN p)) (kR p)) v2 := hS'
  clear hb pp d2 c2 e2 hS'
  generalize hsz : stepO m o _ (kR p) = sz at hS
  obtain rfl : S3 = sz := hS3.out.symm.trans hsz
  clear hsz
  obtain ⟨hc', hm', hp', ho', res, ⟨a3, k3, hk3, hkl⟩, ⟨b3, j3, ht3, htg⟩, h1, h2, h3, h4⟩ := hS
  clear hm' hp' ho' hS3
  go_upto_region 8 with fail
  try simp only [Act.put]
  replace hB := hB.drew
  replace res := res.drew
  replace hkl : Li Kt.vals (w.heap.size + 1 + 1 + 1 + 1 + 1) a3 S3.L (v2.drew) := hkl.below (Below.refl _ _).drew
  replace htg : Lg Kt.vals 38 53 B b3 j3 S3.t (v2.drew) := htg.below (Below.refl _ _).drew
  refine wp_region_held_drew (S := fun w' => Blk K #[.slice a3 S3.L.length k3] 73 w' ∧ (Blk w.heap.size (mbc S3.c) 60 w' ∧ Blk T #[.slice b3 S3.t.length j3] 73 w')) (by kernel_rfl) ⟨hk3.drew, hc'.drew, ht3.drew⟩ (fun hHeld => ?_)
  refine tkH 0 (v := ?v6) rfl (by kernel_rfl) (fun _ _ _ h => h) (Or.inl ⟨by rfl, ?hy6⟩) hHeld ?_
  case hy6 => (intro w hSw; have kc : w.cell? ⟨K, 0, none⟩ = some (.slice a3 S3.L.length k3) := hSw.1.cell 0 _ rfl; clear hSw; go_simp; try with_reducible rfl)
  try simp only [yy]
  refine' tkH 1 (v := _) rfl (by kernel_rfl) (fun _ _ _ h => h) (yieldsIf_load_mid (by rfl) _ _ rfl w.heap.size 0 rfl (mbc S3.c).toList _ ?hS7 Tryz.underlying60 rfl sizeCt) hHeld ?_
  case hS7 => exact fun w h => h.2.1.whole
  try simp only [yy]
  refine tkH 2 (v := ?v8) rfl (by kernel_rfl) (fun _ _ _ h => h) (Or.inl ⟨by rfl, ?hy8⟩) hHeld ?_
  case hy8 => (intro w hSw; have kc : w.cell? ⟨T, 0, none⟩ = some (.slice b3 S3.t.length j3) := hSw.2.2.cell 0 _ rfl; clear hSw; go_simp; try with_reducible rfl)
  try simp only [yy]
  refine tkQ 3 hHeld ?_
  try simp only [yy]
  refine wpAnyH_ready (rs := [4]) (by kernel_rfl) (by simp) ?_
  refine AllReadyH.cons rfl (fun KK hK => ?_) (AllReadyH.nil)
  rw [if_pos (by rfl)]
  refine wp_store_all 60 _ _ rfl (cells := mbc S3.c) res rfl rfl sizeCt rfl (mbc_one _) ?_
  intro u hn hk
  replace hkl := hkl.kp hk (by simp)
  replace htg := htg.kp hk (by simp; omega)
  replace hB := hB.trans (hk.below1 (by omega) hB.size)
  refine hK.out _ _ ⟨hHeld.1.kp1 hk (by omega), hHeld.2.1.kp1 hk (by omega), hHeld.2.2.kp1 hk (by omega)⟩ (fun hHeld => ?_)
  clear hK KK hk
  try simp only [yy]
  refine tkQ 5 hHeld ?_
  try simp only [yy]
  refine wpAnyH_done (by kernel_rfl) ?_ _
  go_wp2_with fail
  refine bodyPost_ret (w := u) (v := .tuple #[.slice a3 S3.L.length k3, .agg (mbc S3.c), .slice b3 S3.t.length j3]) ?_ rfl ⟨⟨a3, k3, b3, j3, rfl, hkl.mono (by omega), htg.li.mono (by omega)⟩, hB⟩
  exact ret_tct rfl rfl hn Tryz.underlying60 rfl sizeCt rfl rfl
end Go.Proofs.YthgfpdidilolgaaGreat
namespace Go.Proofs.YthgfpdidilolgaaGreat
set_option maxRecDepth 10000
open Go.RowKit Go.Sort
theorem first_len (m o : Nat → Nat) (p : Pk) (s : Os) : (firstO m o p s).L.length ≤ s.L.length + 1 := by
 unfold firstO
 split
 ·exact step_len m o s (kO p)
 ·omega
theorem first_tlen (m o : Nat → Nat) (p : Pk) (s : Os) : (firstO m o p s).t.length ≤ s.t.length + 1 := by
 unfold firstO
 split
 ·exact step_tlen m o s (kO p)
 ·omega
theorem offO_len (m o : Nat → Nat) (p : Pk) (s : Os) : (offO m o p s).L.length ≤ s.L.length + 3 := by
 have h1 := first_len m o p s
 have h2 := step_len m o (firstO m o p s) (kN p)
 have h3 := step_len m o (stepO m o (firstO m o p s) (kN p)) (kR p)
 unfold offO
 omega
theorem offO_tlen (m o : Nat → Nat) (p : Pk) (s : Os) : (offO m o p s).t.length ≤ s.t.length + 3 := by
 have h1 := first_tlen m o p s
 have h2 := step_tlen m o (firstO m o p s) (kN p)
 have h3 := step_tlen m o (stepO m o (firstO m o p s) (kN p)) (kR p)
 unfold offO
 omega
structure Fol (c m o : Nat → Nat) (s : Os) : Prop where
 tk : ∀ x ∈ s.t, isM m x.fr = true ∧ x.rd ≤ o x.fr.toNat ∧ c x.fr.toNat < x.rd
 up : ∀ d, c d ≤ s.c d
 non : ∀ d, d < 8 → m d = 0 → s.c d = c d
 top : ∀ d, c d < s.c d → s.c d ≤ o d
 lt : ∀ d, s.c d < 4294967296
theorem Fol.first (L : List Kt) (c m o : Nat → Nat) (hc : ∀ i, c i < 4294967296) : Fol c m o ⟨L, c, []⟩ :=
 ⟨fun x h => by simp at h, fun d => Nat.le_refl _, fun d _ _ => rfl, fun d h => absurd h (Nat.lt_irrefl _), hc⟩
theorem Fol.step {c m o : Nat → Nat} {s : Os} (h : Fol c m o s) (x : Kt) : Fol c m o (stepO m o s x) := by
 cases hb : offB s.c m o x with
 | false => rw [step_no m o s x hb]; exact h
 | true =>
  rw [step_yes m o s x hb]
  unfold offB at hb
  simp only [Bool.and_eq_true] at hb
  obtain ⟨_, hb1, hb2⟩ := hb
  have ho := of_decide_eq_true hb1
  have hM : isM m x.fr = true := by
   unfold takesB at hb2
   simp only [Bool.and_eq_true] at hb2
   exact hb2.1
  obtain ⟨d, hd, hd8, hm, hr⟩ := (takesB_iff s.c m x).1 hb2
  have hdd : x.fr.toNat = d := by rw [hd]; rfl
  have hup := h.up d
  refine ⟨?_, ?_, ?_, ?_, ?_⟩
  ·intro y hy
   rcases List.mem_append.1 hy with hy | hy
   ·exact h.tk y hy
   ·simp at hy
    subst hy
    exact ⟨hM, ho, by rw [hdd]; omega⟩
  ·intro e
   show c e ≤ put8 s.c x.fr.toNat x.rd e
   unfold put8
   split
   ·rename_i he; rw [he, hdd]; omega
   ·exact h.up e
  ·intro e he8 he
   show put8 s.c x.fr.toNat x.rd e = c e
   unfold put8
   split
   ·rename_i hx; rw [hx, hdd] at he; exact absurd he hm
   ·exact h.non e he8 he
  ·intro e
   show c e < put8 s.c x.fr.toNat x.rd e → put8 s.c x.fr.toNat x.rd e ≤ o e
   unfold put8
   split
   ·rename_i hx; intro _; rw [hx]; exact ho
   ·exact h.top e
  ·intro e
   show put8 s.c x.fr.toNat x.rd e < _
   unfold put8
   split
   ·exact x.lt
   ·exact h.lt e
theorem Fol.offer {c m o : Nat → Nat} {s : Os} (h : Fol c m o s) (p : Pk) : Fol c m o (offO m o p s) := by
 have h1 : Fol c m o (firstO m o p s) := by
  unfold firstO
  split
  ·exact h.step _
  ·exact h
 exact (h1.step _).step _
def Kt.like (a b : Kt) : Prop := a.fr = b.fr ∧ a.rd = b.rd
def likes : List Kt → List Kt → Prop
 | [], [] => True
 | a :: l, b :: k => a.like b ∧ likes l k
 | _, _ => False
theorem likes_len : ∀ (l k : List Kt), likes l k → l.length = k.length
 | [], [], _ => rfl
 | a :: l, b :: k, h => by simp [likes_len l k h.2]
 | [], _ :: _, h => h.elim
 | _ :: _, [], h => h.elim
theorem likes_at : ∀ (l k : List Kt), likes l k → ∀ (j : Nat) (a b : Kt), l[j]? = some a → k[j]? = some b → a.like b
 | [], [], _, j, a, b, h, _ => by simp at h
 | x :: l, y :: k, h, 0, a, b, ha, hb => by
  simp at ha hb
  subst ha hb
  exact h.1
 | x :: l, y :: k, h, j + 1, a, b, ha, hb => by
  simp at ha hb
  exact likes_at l k h.2 j a b ha hb
 | [], _ :: _, h, _, _, _, _, _ => h.elim
 | _ :: _, [], h, _, _, _, _, _ => h.elim
theorem likes_snoc : ∀ (l k : List Kt) (a b : Kt), likes l k → a.like b → likes (l ++ [a]) (k ++ [b])
 | [], [], _, _, _, h => ⟨h, trivial⟩
 | _ :: l, _ :: k, a, b, h, hb => ⟨h.1, likes_snoc l k a b h.2 hb⟩
 | [], _ :: _, _, _, h, _ => h.elim
 | _ :: _, [], _, _, h, _ => h.elim
theorem likes_young (x y : Kt) (hxy : x.like y) : ∀ (l k : List Kt), likes l k → likes (young x l) (young y k)
 | [], [], _ => trivial
 | a :: l, b :: k, h => by
  have ih := likes_young x y hxy l k h.2
  have e : oldB x a = oldB y b := by
   unfold oldB
   rw [h.1.1, h.1.2, hxy.1, hxy.2]
  unfold young at ih ⊢
  rw [List.filter_cons, List.filter_cons, e]
  split
  ·exact ⟨h.1, ih⟩
  ·exact ih
 | [], _ :: _, h => h.elim
 | _ :: _, [], h => h.elim
end Go.Proofs.YthgfpdidilolgaaGreat
