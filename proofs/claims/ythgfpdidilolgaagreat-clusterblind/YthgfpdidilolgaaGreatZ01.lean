/-
  Of the texts beneath these laws, in their order: KtA, KtB, KtC.
  Each theorem says its own conditions.
-/
import Derived.Test.YthgfpdidilolgaaGreatZ00
namespace Go.Proofs.YthgfpdidilolgaaGreat
set_option maxRecDepth 10000
open Go.RowKit Go.Sort
theorem kmember_ok (m : Nat → Nat) (v : Int) (w : World) : Calls Tryz.prog 171 #[.agg (mbc m), .int .i64 v] w fun e w' => e = .returned (.bool (isM m v)) ∧ Below w.heap.size w w' := by
 have a0 := blk_new w (mbc m) 55
 have hB : Below w.heap.size w (w.alloc (.cells (mbc m) 55)) := below_box w _
 have hm8 := lst_len m
 rw [← hasL_isM]
 obtain ⟨t, hT⟩ : ∃ t, Hid (hasL (lst m) v = t) := ⟨_, rfl⟩
 rw [hT.out]
 go_enter Tryz.func171, Tryz.ntmps171
 go_upto_region 1 with fail
 generalize (w.alloc (Obj.cells (mbc m) 55)) = W at a0 hB ⊢
 go_wp2_with (refine load_blk rfl 55 _ rfl a0 rfl Tryz.underlying55 rfl sizeMb ?_)
 refine (list_ok m _).mono ?_
 rintro r w1 ⟨⟨la, lc, rfl, hS⟩, hb⟩
 replace hB := hB.trans (hb.mono hB.size)
 replace hS := hS.mono (Nat.zero_le _)
 have hp := contains_ok (lst m) la lc v (by omega) w1 hS
 rw [hT.out] at hp
 generalize (lst m).length = n at *
 clear hb a0 hS
 go_wp2_with fail
 refine hp.mono ?_
 rintro r w2 ⟨rfl, rfl⟩
 clear hp
 go_wp2_with fail
 go_ret
 exact ⟨rfl, hB⟩
theorem next_ok (c r : Nat) (hc : c < 4294967296) (hr : r < 4294967296) (w : World) : Calls Tryz.prog 172 #[.int .u32 (c : Int), .int .u32 (r : Int)] w fun e w' => e = .returned (.bool (decide (r = c + 1))) ∧ w' = w := by
 obtain ⟨t, ht⟩ : ∃ t, decide (r = c + 1) = t := ⟨_, rfl⟩
 rw [ht]
 have h1 : ((r : Int) == (c : Int) + 1) = t := by rw [← ht, Bool.eq_iff_iff, beq_iff_eq, decide_eq_true_iff]; omega
 clear ht
 go_enter Tryz.func172, Tryz.ntmps172
 go_wp2_with fail
 go_ret
 exact ⟨rfl, rfl⟩
set_option maxHeartbeats 1000000 in
theorem older_ok (x k : Kt) (X : Nat) (w : World) (hX : Blk X x.arr 53 w) : Calls Tryz.prog 207 #[.agg k.arr, .pointer (some ⟨X, 0, none⟩)] w fun e w' => e = .returned (.bool (oldB x k)) ∧ Below w.heap.size w w' := by
 have b1 := blk_new w k.arr 53
 have hB : Below w.heap.size w (w.alloc (.cells k.arr 53)) := below_box w _
 have hX1 := hX.below hB
 obtain ⟨W, hW⟩ : ∃ W, w.alloc (.cells k.arr 53) = W := ⟨_, rfl⟩
 rw [hW] at b1 hB hX1
 have q0 := b1.cell 0 _ k.get0
 have q1 := b1.cell 1 _ k.get1
 have q2 := hX1.cell 0 _ x.get0
 have q3 := hX1.cell 1 _ x.get1
 obtain ⟨kf, kr, kg, kl⟩ := k
 obtain ⟨xf, xr, xg, xl⟩ := x
 clear b1 hX1 hX
 by_cases hf : kf = xf
 ·subst hf
  obtain ⟨t, ht⟩ : ∃ t, oldB ⟨kf, xr, xg, xl⟩ ⟨kf, kr, kg, kl⟩ = t := ⟨_, rfl⟩
  rw [ht]
  have h1 : decide ((kr : Int) + 3 ≤ (xr : Int)) = t := by
   rw [← ht, oldB, decide_eq_decide]
   constructor
   ·intro h; exact ⟨rfl, by show kr + 3 ≤ xr; omega⟩
   ·rintro ⟨_, h⟩; have h' : kr + 3 ≤ xr := h; omega
  clear ht
  go_enter Tryz.func207, Tryz.ntmps207
  go_wp2_with fail
  go_ret
  exact ⟨rfl, hB⟩
 ·have ht : oldB ⟨xf, xr, xg, xl⟩ ⟨kf, kr, kg, kl⟩ = false := by simp [oldB, hf]
  rw [ht]
  have h1 : (kf == xf) = false := by rw [beq_eq_false_iff_ne]; exact hf
  clear ht hf
  go_enter Tryz.func207, Tryz.ntmps207
  go_wp2_with fail
  go_ret
  exact ⟨rfl, hB⟩
set_option maxHeartbeats 1000000 in
theorem sought_ok (i : Int) (r : Nat) (k : Kt) (X Y : Nat) (w : World) (hX : Blk X #[.int .i64 i] 3 w) (hY : Blk Y #[.int .u32 (r : Int)] 37 w) : Calls Tryz.prog 183 #[.agg k.arr, .pointer (some ⟨X, 0, none⟩), .pointer (some ⟨Y, 0, none⟩)] w fun e w' => e = .returned (.bool (isB i r k)) ∧ Below w.heap.size w w' := by
 have b1 := blk_new w k.arr 53
 have hB : Below w.heap.size w (w.alloc (.cells k.arr 53)) := below_box w _
 have hX1 := hX.below hB
 have hY1 := hY.below hB
 obtain ⟨W, hW⟩ : ∃ W, w.alloc (.cells k.arr 53) = W := ⟨_, rfl⟩
 rw [hW] at b1 hB hX1 hY1
 have q0 := b1.cell 0 _ k.get0
 have q1 := b1.cell 1 _ k.get1
 have q2 : W.cell? ⟨X, 0, none⟩ = some (.int .i64 i) := hX1.cell 0 _ rfl
 have q3 : W.cell? ⟨Y, 0, none⟩ = some (.int .u32 (r : Int)) := hY1.cell 0 _ rfl
 obtain ⟨kf, kr, kg, kl⟩ := k
 clear b1 hX1 hY1 hX hY
 by_cases hf : kf = i
 ·subst hf
  obtain ⟨t, ht⟩ : ∃ t, isB kf r ⟨kf, kr, kg, kl⟩ = t := ⟨_, rfl⟩
  rw [ht]
  have h1 : ((kr : Int) == (r : Int)) = t := by
   rw [← ht, isB, Bool.eq_iff_iff, beq_iff_eq, decide_eq_true_iff]
   constructor
   ·intro h; exact ⟨rfl, by show kr = r; omega⟩
   ·rintro ⟨_, h⟩; have h' : kr = r := h; omega
  clear ht
  go_enter Tryz.func183, Tryz.ntmps183
  go_wp2_with fail
  go_ret
  exact ⟨rfl, hB⟩
 ·have ht : isB i r ⟨kf, kr, kg, kl⟩ = false := by simp [isB, hf]
  rw [ht]
  have h1 : (kf == i) = false := by rw [beq_eq_false_iff_ne]; exact hf
  clear ht hf
  go_enter Tryz.func183, Tryz.ntmps183
  go_wp2_with fail
  go_ret
  exact ⟨rfl, hB⟩
end Go.Proofs.YthgfpdidilolgaaGreat
namespace Go.Proofs.YthgfpdidilolgaaGreat
set_option maxRecDepth 10000
open Go.RowKit Go.Sort
def Cloned (L : List Kt) (B : Nat) (e : Ending) (w' : World) : Prop := ∃ a c, e = .returned (.slice a L.length c) ∧ Lg Kt.vals 38 53 B a c L w'
set_option maxHeartbeats 1000000 in
theorem clone_ok (L : List Kt) (la : Option Addr) (lc : Nat) (hl : L.length * 352 ≤ 140737488355328) (w : World) (hS : Li Kt.vals 0 la L w) : Calls Tryz.prog 39 #[.slice la L.length lc] w fun e w' => Cloned L w.heap.size e w' ∧ Below w.heap.size w w' := by
 obtain ⟨iI, zI, hI, hz0, hsz, hby, hzs⟩ := infoKt
 cases la with
 | none =>
  obtain rfl : L = [] := by
   rcases hS with h | ⟨_, _, h, _⟩
   ·exact h
   ·cases h
  have HC : Cloned [] w.heap.size (.returned (.slice none 0 0)) w := ⟨none, 0, rfl, Lg.none _ _ _⟩
  have hq : ∀ w, (binOp .eql 73 (.slice none 0 lc) (.slice none 0 0)).run Tryz.prog w = .ok (.bool true) w := fun w => by kernel_rfl
  clear hS hI
  show Calls Tryz.prog 39 #[.slice none 0 lc] w _
  go_enter Tryz.func39, Tryz.ntmps39
  go_wp2_with fail
  go_ret
  exact ⟨HC, Below.refl _ _⟩
 | some ad =>
  have b1 := blk_new w #[] 53
  have hB : Below w.heap.size w (w.alloc (.cells #[] 53)) := below_box w _
  have hS1 := hS.below hB
  have hx := hS1.src (P := Tryz.prog) Kt.vals_length Kt.vals_one Tryz.underlying73 lc
  have ho : Ow Kt.vals 38 53 w.heap.size 0 [] (w.alloc (.cells #[] 53)) := Ow.empty b1
  have e0 : ∀ g : Nat, Value.slice (some ⟨g, 0, none⟩) 0 0 = Value.slice (some ⟨g, 0, none⟩) ([] : List Kt).length 0 := fun _ => rfl
  obtain ⟨n, hn⟩ : ∃ n, Hid (L.length = n) := ⟨_, rfl⟩
  rw [hn.out] at hl hx ⊢
  have hq : ∀ w, (binOp .eql 73 (.slice (some ad) n lc) (.slice none 0 0)).run Tryz.prog w = .ok (.bool false) w := fun w => by kernel_rfl
  clear hS hS1 b1
  go_enter Tryz.func39, Tryz.ntmps39
  go_wp2_with (first | refine box_no rfl rfl ?_ | (refine append_ow Kt.vals_length rfl _ _ rfl Tryz.underlying73 hI hz0 hsz hby hzs ho rfl (M := L) (by rw [hn.out]; exact hx) rfl (by simp [hn.out]; omega) (by simp [maxLen, hn.out]; omega) ?_; intro g' cap' w5 hg5 hb5 hc5; have hB6 : Below w.heap.size w w5 := hB.trans (hb5.below (by simp) hB.size)))
  go_ret
  refine ⟨⟨some ⟨g', 0, none⟩, cap', by simp, Lg.of (by simpa using hg5) (by rcases hc5 with rfl | h <;> simp at * <;> omega)⟩, hB6⟩
def Fnd (p : Kt → Bool) (L : List Kt) (e : Ending) : Prop :=
 (∃ j k, e = .returned (.int .i64 ((j : Nat) : Int)) ∧ L[j]? = some k ∧ p k = true ∧ ∀ k' ∈ L.take j, p k' = false) ∨ (e = .returned (.int .i64 (-1)) ∧ ∀ k ∈ L, p k = false)
set_option maxHeartbeats 2000000 in
theorem ixold_ok (x : Kt) (X : Nat) (L : List Kt) (la : Option Addr) (lc : Nat) (lm : L.length ≤ 9223372036854775807) (w : World) (hS : Li Kt.vals 0 la L w) (hX : Blk X x.arr 53 w) :
  Calls Tryz.prog 182 #[.slice la L.length lc, .func (.func 207) #[] #[.pointer (some ⟨X, 0, none⟩)]] w fun e w' => Fnd (oldB x) L e ∧ Below w.heap.size w w' := by
 obtain ⟨n, hn⟩ : ∃ n, L.length = n := ⟨_, rfl⟩
 rw [hn] at lm ⊢
 have HN : Hid (L.length = n) := hn
 clear hn
 go_enter Tryz.func182, Tryz.ntmps182
 go_wp2_with fail
 go_loopw [8] (fun iv wr => ∃ j : Nat, j ≤ n ∧ iv = .int .i64 j ∧ Hid (∀ k ∈ L.take j, oldB x k = false) ∧ Li Kt.vals 0 la L wr ∧ Blk X x.arr 53 wr ∧ Below w.heap.size w wr) (fun iv _ => n - (intOf iv).toNat)
 case atStart => exact ⟨0, by omega, rfl, fun d h => by simp at h, hS, hX, Below.refl _ _⟩
 case round =>
  clear hS hX
  obtain ⟨j, hj, rfl, h0, hS, hX, hB⟩ := hrel
  by_cases hjn : j < n
  ·have j0 : (j : Int) < (n : Int) := by omega
   have j1 : (0 : Int) ≤ (j : Int) := by omega
   obtain ⟨k, hk⟩ : ∃ k, L[j]? = some k := ⟨_, List.getElem?_eq_getElem (by rw [HN.out]; exact hjn)⟩
   obtain ⟨b, o, rfl, _, hbl, hr⟩ := hS.at Kt.vals_length j k hk
   have pk := older_ok x k X wr hX
   obtain ⟨t, ht⟩ : ∃ t, oldB x k = t := ⟨_, rfl⟩
   have HT : Hid (oldB x k = t) := ht
   rw [ht] at pk
   clear ht
   go_wp2_with (refine load_range rfl 53 _ rfl k.vals hr rfl Tryz.underlying53 rfl sizeKt ?_)
   refine pk.mono ?_
   rintro r w1 ⟨rfl, hb⟩
   replace hS := hS.below hb
   replace hX := hX.below hb
   replace hB := hB.trans (hb.mono hB.size)
   clear hb pk hr
   cases t with
   | true =>
    have HF : Fnd (oldB x) L (.returned (.int .i64 (j : Int))) := .inl ⟨j, k, rfl, hk, HT.out, h0.out⟩
    clear HT h0 hk hS hX
    go_wp2_with fail
    go_ret
    exact ⟨HF, hB⟩
   | false =>
    have HS : Hid (∀ k ∈ L.take (j + 1), oldB x k = false) := by
     intro e he
     rw [List.take_add_one, hk] at he
     rcases List.mem_append.1 he with he | he
     ·exact h0.out e he
     ·simp at he
      rw [he]
      exact HT.out
    clear HT h0 hk
    go_wp2_with fail
    exact ⟨⟨j + 1, by omega, by go_num, HS, hS, hX, hB⟩, by simp [intOf]; omega⟩
  ·obtain rfl : j = n := by omega
   have HF : Fnd (oldB x) L (.returned (.int .i64 (-1))) := .inr ⟨rfl, fun k hk => h0.out k (by rw [List.take_of_length_le (by rw [HN.out]; omega)]; exact hk)⟩
   clear h0 HN hS hX
   go_wp2_with fail
   go_ret
   exact ⟨HF, hB⟩
set_option maxHeartbeats 2000000 in
theorem ixis_ok (i : Int) (r : Nat) (X Y : Nat) (L : List Kt) (la : Option Addr) (lc : Nat) (lm : L.length ≤ 9223372036854775807) (w : World) (hS : Li Kt.vals 0 la L w) (hX : Blk X #[.int .i64 i] 3 w) (hY : Blk Y #[.int .u32 (r : Int)] 37 w) :
  Calls Tryz.prog 182 #[.slice la L.length lc, .func (.func 183) #[] #[.pointer (some ⟨X, 0, none⟩), .pointer (some ⟨Y, 0, none⟩)]] w fun e w' => Fnd (isB i r) L e ∧ Below w.heap.size w w' := by
 obtain ⟨n, hn⟩ : ∃ n, L.length = n := ⟨_, rfl⟩
 rw [hn] at lm ⊢
 have HN : Hid (L.length = n) := hn
 clear hn
 go_enter Tryz.func182, Tryz.ntmps182
 go_wp2_with fail
 go_loopw [8] (fun iv wr => ∃ j : Nat, j ≤ n ∧ iv = .int .i64 j ∧ Hid (∀ k ∈ L.take j, isB i r k = false) ∧ Li Kt.vals 0 la L wr ∧ Blk X #[.int .i64 i] 3 wr ∧ Blk Y #[.int .u32 (r : Int)] 37 wr ∧ Below w.heap.size w wr) (fun iv _ => n - (intOf iv).toNat)
 case atStart => exact ⟨0, by omega, rfl, fun d h => by simp at h, hS, hX, hY, Below.refl _ _⟩
 case round =>
  clear hS hX hY
  obtain ⟨j, hj, rfl, h0, hS, hX, hY, hB⟩ := hrel
  by_cases hjn : j < n
  ·have j0 : (j : Int) < (n : Int) := by omega
   have j1 : (0 : Int) ≤ (j : Int) := by omega
   obtain ⟨k, hk⟩ : ∃ k, L[j]? = some k := ⟨_, List.getElem?_eq_getElem (by rw [HN.out]; exact hjn)⟩
   obtain ⟨b, o, rfl, _, hbl, hr⟩ := hS.at Kt.vals_length j k hk
   have pk := sought_ok i r k X Y wr hX hY
   obtain ⟨t, ht⟩ : ∃ t, isB i r k = t := ⟨_, rfl⟩
   have HT : Hid (isB i r k = t) := ht
   rw [ht] at pk
   clear ht
   go_wp2_with (refine load_range rfl 53 _ rfl k.vals hr rfl Tryz.underlying53 rfl sizeKt ?_)
   refine pk.mono ?_
   rintro r w1 ⟨rfl, hb⟩
   replace hS := hS.below hb
   replace hX := hX.below hb
   replace hY := hY.below hb
   replace hB := hB.trans (hb.mono hB.size)
   clear hb pk hr
   cases t with
   | true =>
    have HF : Fnd (isB i r) L (.returned (.int .i64 (j : Int))) := .inl ⟨j, k, rfl, hk, HT.out, h0.out⟩
    clear HT h0 hk hS hX hY
    go_wp2_with fail
    go_ret
    exact ⟨HF, hB⟩
   | false =>
    have HS : Hid (∀ k ∈ L.take (j + 1), isB i r k = false) := by
     intro e he
     rw [List.take_add_one, hk] at he
     rcases List.mem_append.1 he with he | he
     ·exact h0.out e he
     ·simp at he
      rw [he]
      exact HT.out
    clear HT h0 hk
    go_wp2_with fail
    exact ⟨⟨j + 1, by omega, by go_num, HS, hS, hX, hY, hB⟩, by simp [intOf]; omega⟩
  ·obtain rfl : j = n := by omega
   have HF : Fnd (isB i r) L (.returned (.int .i64 (-1))) := .inr ⟨rfl, fun k hk => h0.out k (by rw [List.take_of_length_le (by rw [HN.out]; omega)]; exact hk)⟩
   clear h0 HN hS hX hY
   go_wp2_with fail
   go_ret
   exact ⟨HF, hB⟩
def Asks (x : Kt) (B : Nat) (e : Ending) (w' : World) : Prop := ∃ X, e = .returned (.func (.func 207) #[] #[.pointer (some ⟨X, 0, none⟩)]) ∧ B ≤ X ∧ Blk X x.arr 53 w'
theorem olderThan_ok (x : Kt) (w : World) : Calls Tryz.prog 174 #[.agg x.arr] w fun e w' => Asks x w.heap.size e w' ∧ Below w.heap.size w w' := by
 have b1 := blk_new w x.arr 53
 have hB : Below w.heap.size w (w.alloc (.cells x.arr 53)) := below_box w _
 have hmf : ∀ (fn : Fn) (first cap : Array Value) (w : World), (Instr.makeFunc fn first cap).run Tryz.prog w = .ok (.func fn first cap) w := fun _ _ _ _ => rfl
 have HA : Asks x w.heap.size (.returned (.func (.func 207) #[] #[.pointer (some ⟨w.heap.size, 0, none⟩)])) (w.alloc (.cells x.arr 53)) := ⟨_, rfl, Nat.le_refl _, b1⟩
 clear b1
 go_enter Tryz.func174, Tryz.ntmps174
 go_wp2_with fail
 go_ret
 exact ⟨HA, hB⟩
end Go.Proofs.YthgfpdidilolgaaGreat
namespace Go.Proofs.YthgfpdidilolgaaGreat
set_option maxRecDepth 10000
open Go.RowKit Go.Sort
theorem young_all (x : Kt) (L : List Kt) (h : ∀ k ∈ L, oldB x k = false) : young x L = L := by
 unfold young
 rw [List.filter_eq_self]
 intro k hk
 rw [h k hk]; rfl
theorem set_take (M : List Kt) (i : Nat) (k : Kt) (h : i < M.length) : (M.set i k).take (i + 1) = M.take i ++ [k] := by
 rw [List.take_add_one, List.getElem?_set_self h, List.take_set, List.set_eq_of_length_le (by simp; omega)]
 rfl
theorem elemKs : Tryz.prog.elem 73 = 53 := by kernel_rfl
theorem sizeOfKt (w : World) : (sizeOf 53).run Tryz.prog w = .ok 38 w := by kernel_rfl
theorem zeroOfKt (w : World) : (zeroValue 53).run Tryz.prog w = .ok (.agg Kt.zero.arr) w := by kernel_rfl
def Del (x : Kt) (L : List Kt) (B : Nat) (ad : Option Addr) (cap : Nat) (e : Ending) (w' : World) : Prop := e = .returned (.slice ad (young x L).length cap) ∧ Lg Kt.vals 38 53 B ad cap (young x L) w'
set_option maxHeartbeats 4000000 in
theorem delete_ok (x : Kt) (X : Nat) (L : List Kt) (B : Nat) (ad : Option Addr) (cap : Nat) (w : World) (hG : Lg Kt.vals 38 53 B ad cap L w) (hX : Blk X x.arr 53 w) (hne : X ∉ blkOf ad) :
  Calls Tryz.prog 173 #[.slice ad L.length cap, .func (.func 207) #[] #[.pointer (some ⟨X, 0, none⟩)]] w fun e w' => Del x L B ad cap e w' ∧ Kp (blkOf ad) w w' := by
 have hlm : L.length ≤ 9223372036854775807 := by
  rcases hG with ⟨_, _, rfl⟩ | ⟨g, _, _, h⟩
  ·simp
  ·have := h.len; simp only [maxLen] at this; omega
 have pi := ixold_ok x X L ad cap hlm w (hG.li.mono (Nat.zero_le _)) hX
 obtain ⟨n, hn⟩ : ∃ n, L.length = n := ⟨_, rfl⟩
 rw [hn] at pi hlm ⊢
 have HN : Hid (L.length = n) := hn
 clear hn
 go_enter Tryz.func173, Tryz.ntmps173
 go_wp2_with fail
 refine pi.mono ?_
 rintro r w1 ⟨hF, hb⟩
 replace hG := hG.below hb
 replace hX := hX.below hb
 have hKp : Kp (blkOf ad) w w1 := Kp.of_below hb
 clear hb pi
 rcases hF with ⟨j0, k0, rfl, hj0, hp0, hall⟩ | ⟨rfl, hall⟩
 rotate_left
 ·have HD : Del x L B ad cap (.returned (.slice ad n cap)) w1 := by
   have e := young_all x L hall
   refine ⟨by rw [e, HN.out], by rw [e]; exact hG⟩
  clear hG hX hall
  go_wp2_with fail
  go_ret
  exact ⟨HD, hKp⟩
 obtain ⟨g, rfl, hBg, hO⟩ : ∃ g, ad = some ⟨g, 0, none⟩ ∧ B ≤ g ∧ Ow Kt.vals 38 53 g cap L w1 := by
  rcases hG with ⟨_, _, rfl⟩ | h
  ·simp at hj0
  ·exact h
 have hXg : X ≠ g := by simpa [blkOf] using hne
 have hKp : Kp [g] w w1 := hKp
 show _
 have hj0n : j0 < n := by rw [← HN.out]; exact (List.getElem?_eq_some_iff.1 hj0).1
 have h0 : young x (L.take (j0 + 1)) = L.take j0 := by rw [young_yes x k0 L j0 hj0 hp0, young_all x _ hall]
 have hlj : (L.take j0).length = j0 := by rw [List.length_take, HN.out]; omega
 have hcap := hO.len
 rw [HN.out] at hcap
 have H0 : Hid ((young x (L.take (j0 + 1))).length = j0 ∧ L.take j0 = young x (L.take (j0 + 1))) := ⟨by rw [h0, hlj], h0.symm⟩
 have i0 : (((j0 : Nat) : Int) == -1) = false := by rw [beq_eq_false_iff_ne]; omega
 have j63 : (j0 : Int) + 1 ≤ 9223372036854775807 := by omega
 clear hall hp0 hj0 h0 hlj hG hne
 go_wp2_with fail
 clear i0 j63
 go_loopw [5, 6] (fun iv jv wr => ∃ (i j : Nat) (L' : List Kt), i < j ∧ j ≤ n ∧ iv = .int .i64 i ∧ jv = .int .i64 j ∧ Hid ((young x (L.take j)).length = i) ∧ Hid (L'.take i = young x (L.take j)) ∧ Hid (∀ q, j ≤ q → L'[q]? = L[q]?) ∧ Hid (L'.length = n) ∧ Ow Kt.vals 38 53 g cap L' wr ∧ Blk X x.arr 53 wr ∧ Kp [g] w wr) (fun _ jv _ => n - (intOf jv).toNat)
 case atStart => exact ⟨j0, j0 + 1, L, by omega, by omega, rfl, by go_num, H0.out.1, H0.out.2, fun _ _ => rfl, HN, hO, hX, hKp⟩
 case round =>
  clear hO hX hKp H0 hj0n
  obtain ⟨i, j, L', hij, hj, rfl, rfl, HI, HT, HR, HL, hO, hX, hKp⟩ := hrel
  by_cases hjn : j < n
  ·have j0 : (j : Int) < (n : Int) := by omega
   have j1 : (0 : Int) ≤ (j : Int) := by omega
   have i1 : (0 : Int) ≤ (i : Int) := by omega
   have i2 : (i : Int) < (n : Int) := by omega
   obtain ⟨k, hk⟩ : ∃ k, L[j]? = some k := ⟨_, List.getElem?_eq_getElem (by rw [HN.out]; exact hjn)⟩
   obtain ⟨b', o', e', _, _, hr⟩ := (hO.li (Nat.zero_le g)).at Kt.vals_length j k (by rw [HR.out j (Nat.le_refl _)]; exact hk)
   injection e' with e'
   injection e' with e1 e2 e3
   subst e1 e2
   rw [Nat.zero_add] at hr
   obtain ⟨t, ht⟩ : ∃ t, oldB x k = t := ⟨_, rfl⟩
   have HO : Hid (oldB x k = t) := ht
   have pk := fun (V : World) (h : Blk X x.arr 53 V) => older_ok x k X V h
   rw [ht] at pk
   have b1 := blk_new wr k.arr 53
   have hb1 : Below wr.heap.size wr (wr.alloc (.cells k.arr 53)) := below_box wr _
   have hvg : wr.heap.size ≠ g := by have := hO.lt; omega
   have hw : w.heap.size ≤ wr.heap.size := hKp.size
   clear ht
   go_upto_region 8 with (first | refine load_range rfl 53 _ rfl k.vals hr rfl Tryz.underlying53 rfl sizeKt ?_ | refine alloc_zero zeroKt rfl rfl ?_ | refine store_new rfl 53 _ _ rfl (cells := k.arr) rfl rfl sizeKt rfl (Kt.arr_one _) ?_)
   try simp only [Act.put, List.setIfInBounds_toArray, List.set_cons_zero, List.set_cons_succ]
   generalize wr.alloc (Obj.cells k.arr 53) = V at b1 hb1 ⊢
   replace hO := hO.below hb1
   replace hX := hX.below hb1
   replace hKp := hKp.trans (Kp.of_below (S := [g]) hb1)
   generalize wr.heap.size = v at *
   clear hb1 hr
   go_wp2_with (refine load_blk rfl 53 _ rfl b1 rfl Tryz.underlying53 rfl sizeKt ?_)
   refine (pk _ hX).mono ?_
   rintro r w2 ⟨rfl, hb⟩
   replace b1 := b1.below hb
   replace hO := hO.below hb
   replace hX := hX.below hb
   replace hKp := hKp.trans (Kp.of_below (S := [g]) hb)
   clear hb pk
   cases t with
   | true =>
    have e := young_yes x k L j hk HO.out
    have HI2 : Hid ((young x (L.take (j + 1))).length = i) := by rw [e]; exact HI
    have HT2 : Hid (L'.take i = young x (L.take (j + 1))) := by rw [e]; exact HT
    have HR2 : Hid (∀ q, j + 1 ≤ q → L'[q]? = L[q]?) := fun q hq => HR.out q (by omega)
    clear e HI HT HR HO hk b1
    go_wp2_with fail
    exact ⟨⟨i, j + 1, L', by omega, by omega, rfl, by go_num, HI2, HT2, HR2, HL, hO, hX, hKp⟩, by simp [intOf]; omega⟩
   | false =>
    have e := young_no x k L j hk HO.out
    have HI2 : Hid ((young x (L.take (j + 1))).length = i + 1) := by
     show (young x (L.take (j + 1))).length = i + 1
     rw [e, List.length_append, HI.out]; rfl
    have HT2 : Hid ((L'.set i k).take (i + 1) = young x (L.take (j + 1))) := by
     show (L'.set i k).take (i + 1) = young x (L.take (j + 1))
     rw [e, ← HT.out, set_take L' i k (by rw [HL.out]; omega)]
    have HR2 : Hid (∀ q, j + 1 ≤ q → (L'.set i k)[q]? = L[q]?) := fun q hq => by
     rw [List.getElem?_set_ne (by omega)]
     exact HR.out q (by omega)
    have HL2 : Hid ((L'.set i k).length = n) := by
     show (L'.set i k).length = n
     rw [List.length_set]; exact HL.out
    obtain ⟨cur, hC, _, _, hsz, _⟩ := id hO
    have hoff : i * 38 + k.arr.size ≤ cur.size := by rw [hsz, Kt.arr_size]; omega
    have hiL : i < L'.length := by rw [HL.out]; omega
    clear e HI HT HR HO hk hsz
    go_wp2_with (first | refine load_blk rfl 53 _ rfl b1 rfl Tryz.underlying53 rfl sizeKt ?_ | (refine store_part rfl 53 _ _ rfl (off := i * 38) (cells := k.arr) hC rfl rfl sizeKt hoff (Kt.arr_one _) ?_; intro w3 b3 k3; have hO3 := hO.put Kt.vals_length (by decide) i hiL k hC b3; have hX3 := hX.kp1 k3 hXg; have hKp3 := hKp.trans k3))
    exact ⟨⟨i + 1, j + 1, L'.set i k, by omega, by omega, by go_num, by go_num, HI2, HT2, HR2, HL2, hO3, hX3, hKp3⟩, by simp [intOf]; omega⟩
  ·obtain rfl : j = n := by omega
   have e : L.take j = L := List.take_of_length_le (by rw [HN.out]; omega)
   rw [e] at HI HT
   have i1 : (0 : Int) ≤ (i : Int) := by omega
   have i2 : (i : Int) ≤ (cap : Int) := by omega
   have i3 : (i : Int) ≤ (j : Int) := by omega
   obtain ⟨cur, hC, _, _, hsz, _⟩ := id hO
   have hs38 : i * 38 + (j - i) * 38 ≤ cur.size := by rw [hsz]; omega
   have hf38 : i * 38 + (flat Kt.vals (List.replicate (j - i) Kt.zero)).length ≤ cap * 38 := by rw [flat_length Kt.vals_length, List.length_replicate]; omega
   have hiL : i ≤ L'.length := by rw [HL.out]; omega
   clear e HR HN hsz
   go_wp2_with (first | refine cut_low (k := 38) rfl _ _ rfl Tryz.underlying73 elemKs sizeOfKt hij hcap.1 rfl rfl ?_ | (refine clear_at Kt.vals_length (by decide) Kt.vals_one Kt.zero rfl _ rfl Tryz.underlying73 zeroOfKt rfl hC (by omega) hs38 rfl ?_; intro w3 b3 k3; have hO3 := hO.front Kt.vals_length i hiL _ hf38 hC b3; have hKp3 := hKp.trans k3))
   have HD : Del x L B (some ⟨g, 0, none⟩) cap (.returned (.slice (some ⟨g, 0, none⟩) i cap)) w3 := by
    rw [HT.out] at hO3
    exact ⟨by rw [HI.out], Lg.of hO3 hBg⟩
   clear HI HT HL hO hO3 hC b3 hX
   go_ret
   exact ⟨HD, hKp3⟩
end Go.Proofs.YthgfpdidilolgaaGreat
