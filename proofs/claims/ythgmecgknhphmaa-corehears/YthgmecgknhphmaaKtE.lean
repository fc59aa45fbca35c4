/-
  Which frame is found, which one a number names, whether two lists are the same: what each call answers.
  No condition.
-/
import Derived.Test.YthgmecgknhphmaaKtD
namespace Go.Proofs.Ythgmecgknhphmaa
set_option maxRecDepth 10000
open Go.RowKit Go.Sort
set_option linter.unusedVariables false

def pickK (L : List Kt) (v : Nat) : Kt := (L[v % L.length]?).getD Kt.zero
def getK (i : Int) (r : Nat) (L : List Kt) : Option Kt := L.find? (isB i r)
def gotF : Option Kt → (Nat → En)
  | some k => k.f
  | none => noFr
theorem find_at (p : Kt → Bool) : ∀ (L : List Kt) (j : Nat) (k : Kt), L[j]? = some k → p k = true → (∀ k' ∈ L.take j, p k' = false) → L.find? p = some k
  | [], j, k, h, _, _ => by simp at h
  | y :: l, 0, k, h, hp, _ => by
    simp at h
    subst h
    simp [hp]
  | y :: l, j + 1, k, h, hp, ha => by
    simp at h
    have hy := ha y (by simp)
    rw [List.find?_cons, hy]
    exact find_at p l j k h hp (fun k' hk => ha k' (by simp [hk]))
theorem find_none (p : Kt → Bool) (L : List Kt) (h : ∀ k ∈ L, p k = false) : L.find? p = none := by
  rw [List.find?_eq_none]
  intro k hk
  rw [h k hk]
  simp
theorem Kt.frame_range (x : Kt) {b o : Nat} {w : World} (h : w.rangeAt b o x.vals) : w.rangeAt b (o + 2) (frv x.f) := fun j v hv => by
  rw [Nat.add_assoc]
  exact h (2 + j) v (by rw [Nat.add_comm]; exact hv)

set_option maxHeartbeats 2000000 in
theorem pick_ok (L : List Kt) (la : Option Addr) (lc v : Nat) (hv : v < 4294967296) (lm : L.length ≤ 9223372036854775807) (w : World) (lS : Li Kt.vals 0 la L w) : Calls Try.prog 44 #[.slice la L.length lc, .int .u32 (v : Int)] w fun e w' => e = .returned (.tuple #[.agg (pickK L v).arr, .bool (!L.isEmpty)]) ∧ Below w.heap.size w w' := by
  have b1 := blk_new w Kt.zero.arr 64
  have hB : Below w.heap.size w (w.alloc (.cells Kt.zero.arr 64)) := below_box w _
  have lS1 := lS.below hB
  have hpa : ∀ k : Kt, putAt Kt.zero.arr 0 k.arr.toList = k.arr := fun k => putAt_all _ _ rfl
  by_cases h0 : L = []
  · subst h0
    have e1 : pickK [] v = Kt.zero := rfl
    rw [e1]
    clear lS lS1
    simp only [List.length_nil, List.isEmpty_nil, Bool.not_true]
    go_enter Try.func44, Try.ntmps44
    go_upto_region 1 with (refine alloc_zero zeroKt rfl rfl ?_)
    try simp only [Act.put]
    generalize w.alloc (Obj.cells Kt.zero.arr 64) = W at b1 hB ⊢
    go_wp2_with (first | refine build_zero builtKt rfl rfl ?_ | (refine store_part rfl 64 _ _ rfl (off := 0) (cells := Kt.zero.arr) b1 rfl rfl sizeKt (Nat.le_refl _) (Kt.arr_one _) ?_; intro w2 b2 k2; rw [hpa] at b2; have hB2 : Below w.heap.size w w2 := hB.trans (k2.below1 (Nat.le_refl _) hB.size)))
    exact bodyPost_ret (w := w2) (v := .tuple #[.agg Kt.zero.arr, .bool false]) (ret_two rfl rfl b2 Try.underlying64 rfl sizeKt rfl) rfl ⟨rfl, hB2⟩
  · have hp : 0 < L.length := List.length_pos_iff.2 h0
    obtain ⟨x, hx⟩ : ∃ x, L[v % L.length]? = some x := ⟨_, List.getElem?_eq_getElem (Nat.mod_lt _ hp)⟩
    have e1 : pickK L v = x := by rw [pickK, hx]; rfl
    have e2 : (!L.isEmpty) = true := by simp [h0]
    rw [e1, e2]
    obtain ⟨b, o, rfl, _, _, hr⟩ := lS1.at Kt.vals_length (v % L.length) x hx
    have hml := Nat.mod_lt v hp
    have hmo : ((v % L.length : Nat) : Int) = (v : Int) % (L.length : Int) := Int.natCast_emod v L.length
    clear e1 e2 hx h0 lS lS1
    generalize v % L.length = j at *
    generalize L.length = n at *
    have n0 : ((n : Int) == 0) = false := by rw [beq_eq_false_iff_ne]; omega
    have n2 : ¬ (n : Int) = 0 := by omega
    have j0 : (0 : Int) ≤ (v : Int) % (n : Int) := by omega
    have j1 : (v : Int) % (n : Int) < (n : Int) := by omega
    have j2 : ((v : Int) % (n : Int)).toNat = j := by omega
    go_enter Try.func44, Try.ntmps44
    go_upto_region 1 with (refine alloc_zero zeroKt rfl rfl ?_)
    try simp only [Act.put]
    generalize w.alloc (Obj.cells Kt.zero.arr 64) = W at b1 hB hr ⊢
    go_wp2_with (first | refine load_range rfl 64 _ rfl x.vals hr rfl Try.underlying64 rfl sizeKt ?_ | (refine store_part rfl 64 _ _ rfl (off := 0) (cells := x.arr) b1 rfl rfl sizeKt (Nat.le_refl _) (Kt.arr_one _) ?_; intro w2 b2 k2; rw [hpa] at b2; have hB2 : Below w.heap.size w w2 := hB.trans (k2.below1 (Nat.le_refl _) hB.size)))
    exact bodyPost_ret (w := w2) (v := .tuple #[.agg x.arr, .bool true]) (ret_two rfl rfl b2 Try.underlying64 rfl sizeKt rfl) rfl ⟨rfl, hB2⟩

set_option maxHeartbeats 2000000 in
theorem rpick_ok (L : List Kt) (la : Option Addr) (lc v : Nat) (hv : v < 4294967296) (lm : L.length ≤ 9223372036854775807) (w : World) (lS : Li Kt.vals 0 la L w) : Calls Try.prog 46 #[.slice la L.length lc, .int .u32 (v : Int)] w fun e w' => e = .returned (.tuple #[.agg (pickK L v).arr, .bool (!L.isEmpty)]) ∧ Below w.heap.size w w' := by
  have b1 := blk_new w Kt.zero.arr 64
  have hB : Below w.heap.size w (w.alloc (.cells Kt.zero.arr 64)) := below_box w _
  have lS1 := lS.below hB
  have hpa : ∀ k : Kt, putAt Kt.zero.arr 0 k.arr.toList = k.arr := fun k => putAt_all _ _ rfl
  by_cases h0 : L = []
  · subst h0
    have e1 : pickK [] v = Kt.zero := rfl
    rw [e1]
    clear lS lS1
    simp only [List.length_nil, List.isEmpty_nil, Bool.not_true]
    go_enter Try.func46, Try.ntmps46
    go_upto_region 1 with (refine alloc_zero zeroKt rfl rfl ?_)
    try simp only [Act.put]
    generalize w.alloc (Obj.cells Kt.zero.arr 64) = W at b1 hB ⊢
    go_wp2_with (first | refine build_zero builtKt rfl rfl ?_ | (refine store_part rfl 64 _ _ rfl (off := 0) (cells := Kt.zero.arr) b1 rfl rfl sizeKt (Nat.le_refl _) (Kt.arr_one _) ?_; intro w2 b2 k2; rw [hpa] at b2; have hB2 : Below w.heap.size w w2 := hB.trans (k2.below1 (Nat.le_refl _) hB.size)))
    exact bodyPost_ret (w := w2) (v := .tuple #[.agg Kt.zero.arr, .bool false]) (ret_two rfl rfl b2 Try.underlying64 rfl sizeKt rfl) rfl ⟨rfl, hB2⟩
  · have hp : 0 < L.length := List.length_pos_iff.2 h0
    obtain ⟨x, hx⟩ : ∃ x, L[v % L.length]? = some x := ⟨_, List.getElem?_eq_getElem (Nat.mod_lt _ hp)⟩
    have e1 : pickK L v = x := by rw [pickK, hx]; rfl
    have e2 : (!L.isEmpty) = true := by simp [h0]
    rw [e1, e2]
    obtain ⟨b, o, rfl, _, _, hr⟩ := lS1.at Kt.vals_length (v % L.length) x hx
    have hml := Nat.mod_lt v hp
    have hmo : ((v % L.length : Nat) : Int) = (v : Int) % (L.length : Int) := Int.natCast_emod v L.length
    clear e1 e2 hx h0 lS lS1
    generalize v % L.length = j at *
    generalize L.length = n at *
    have n0 : ((n : Int) == 0) = false := by rw [beq_eq_false_iff_ne]; omega
    have n2 : ¬ (n : Int) = 0 := by omega
    have j0 : (0 : Int) ≤ (v : Int) % (n : Int) := by omega
    have j1 : (v : Int) % (n : Int) < (n : Int) := by omega
    have j2 : ((v : Int) % (n : Int)).toNat = j := by omega
    go_enter Try.func46, Try.ntmps46
    go_upto_region 1 with (refine alloc_zero zeroKt rfl rfl ?_)
    try simp only [Act.put]
    generalize w.alloc (Obj.cells Kt.zero.arr 64) = W at b1 hB hr ⊢
    go_wp2_with (first | refine load_range rfl 64 _ rfl x.vals hr rfl Try.underlying64 rfl sizeKt ?_ | (refine store_part rfl 64 _ _ rfl (off := 0) (cells := x.arr) b1 rfl rfl sizeKt (Nat.le_refl _) (Kt.arr_one _) ?_; intro w2 b2 k2; rw [hpa] at b2; have hB2 : Below w.heap.size w w2 := hB.trans (k2.below1 (Nat.le_refl _) hB.size)))
    exact bodyPost_ret (w := w2) (v := .tuple #[.agg x.arr, .bool true]) (ret_two rfl rfl b2 Try.underlying64 rfl sizeKt rfl) rfl ⟨rfl, hB2⟩

set_option maxHeartbeats 2000000 in
theorem get_ok (L : List Kt) (la : Option Addr) (lc : Nat) (i : Int) (r : Nat) (lm : L.length ≤ 9223372036854775807) (w : World) (lS : Li Kt.vals 0 la L w) : Calls Try.prog 43 #[.slice la L.length lc, .int .i64 i, .int .u32 (r : Int)] w fun e w' => e = .returned (.tuple #[.agg (frc (gotF (getK i r L))), .bool (getK i r L).isSome]) ∧ Below w.heap.size w w' := by
  obtain ⟨a0, a1, a2, hB⟩ := three_blk (T0 := 3) (T1 := 22) (T2 := 41) (C0 := #[.int .i64 i]) (C1 := #[.int .u32 (r : Int)]) (C2 := frc noFr) (w := w) rfl
  have hmf : ∀ (fn : Fn) (first cap : Array Value) (w : World), (Instr.makeFunc fn first cap).run Try.prog w = .ok (.func fn first cap) w := fun _ _ _ _ => rfl
  have hpa : ∀ f, putAt (frc noFr) 0 (frc f).toList = frc f := fun f => putAt_all _ _ rfl
  obtain ⟨G, hG⟩ : ∃ G, Hid (getK i r L = G) := ⟨_, rfl⟩
  rw [hG.out]
  go_enter Try.func43, Try.ntmps43
  go_upto_region 1 with (refine alloc_zero zeroFr rfl rfl ?_)
  try simp only [Act.put]
  try simp only [alloc_size]
  generalize ((w.alloc (Obj.cells #[Value.int IntKind.i64 i] 3)).alloc (Obj.cells #[Value.int IntKind.u32 (r : Int)] 22)).alloc (Obj.cells (frc noFr) 41) = W at a0 a1 a2 hB ⊢
  go_wp2_with fail
  refine (ixis_ok i r _ _ L la lc lm W (lS.below hB) a0 a1).mono ?_
  rintro e w1 ⟨hF, hb⟩
  replace a2 := a2.below hb
  replace hB := hB.trans (hb.mono hB.size)
  clear hb a0 a1
  rcases hF with ⟨j, k, rfl, hj, hp, hall⟩ | ⟨rfl, hall⟩
  · obtain rfl : G = some k := hG.out.symm.trans (find_at _ L j k hj hp hall)
    obtain ⟨b, o, rfl, _, _, hr⟩ := (lS.below hB).at Kt.vals_length j k hj
    replace hr := k.frame_range hr
    have hjn : j < L.length := (List.getElem?_eq_some_iff.1 hj).1
    clear hG
    generalize L.length = n at *
    have j0 : ¬ (j : Int) < 0 := by omega
    have j1 : (j : Int) < (n : Int) := by omega
    clear hj hp hall lS
    go_wp2_with (first | refine load_range rfl 41 _ rfl (frv k.f) hr rfl Try.underlying41 rfl sizeFr ?_ | (refine store_part rfl 41 _ _ rfl (off := 0) (cells := frc k.f) a2 rfl rfl sizeFr (Nat.le_refl _) (frc_one _) ?_; intro w3 b3 k3; rw [hpa] at b3; have hB3 : Below w.heap.size w w3 := hB.trans (k3.below1 (by omega) hB.size)))
    exact bodyPost_ret (w := w3) (v := .tuple #[.agg (frc k.f), .bool true]) (ret_two rfl rfl b3 Try.underlying41 rfl sizeFr rfl) rfl ⟨rfl, hB3⟩
  · obtain rfl : G = none := hG.out.symm.trans (find_none _ L hall)
    clear hall lS hG
    go_wp2_with (first | refine build_zero builtFr rfl rfl ?_ | (refine store_part rfl 41 _ _ rfl (off := 0) (cells := frc noFr) a2 rfl rfl sizeFr (Nat.le_refl _) (frc_one _) ?_; intro w3 b3 k3; rw [hpa] at b3; have hB3 : Below w.heap.size w w3 := hB.trans (k3.below1 (by omega) hB.size)))
    exact bodyPost_ret (w := w3) (v := .tuple #[.agg (frc noFr), .bool false]) (ret_two rfl rfl b3 Try.underlying41 rfl sizeFr rfl) rfl ⟨rfl, hB3⟩

set_option maxHeartbeats 2000000 in
theorem rget_ok (L : List Kt) (la : Option Addr) (lc : Nat) (i : Int) (r : Nat) (lm : L.length ≤ 9223372036854775807) (w : World) (lS : Li Kt.vals 0 la L w) : Calls Try.prog 45 #[.slice la L.length lc, .int .i64 i, .int .u32 (r : Int)] w fun e w' => e = .returned (.tuple #[.agg (frc (gotF (getK i r L))), .bool (getK i r L).isSome]) ∧ Below w.heap.size w w' := by
  have a2 := blk_new w (frc noFr) 41
  have hB : Below w.heap.size w (w.alloc (.cells (frc noFr) 41)) := below_box w _
  have hpa : ∀ f, putAt (frc noFr) 0 (frc f).toList = frc f := fun f => putAt_all _ _ rfl
  have lS1 := lS.below hB
  obtain ⟨n, hn⟩ : ∃ n, Hid (L.length = n) := ⟨_, rfl⟩
  rw [hn.out] at lm ⊢
  obtain ⟨G, hG⟩ : ∃ G, Hid (getK i r L = G) := ⟨_, rfl⟩
  rw [hG.out]
  clear lS
  go_enter Try.func45, Try.ntmps45
  go_upto_region 1 with (refine alloc_zero zeroFr rfl rfl ?_)
  try simp only [Act.put]
  generalize w.alloc (Obj.cells (frc noFr) 41) = W at a2 hB lS1 ⊢
  go_wp2_with fail
  go_loopw [8] (fun iv wr => ∃ j : Nat, j ≤ n ∧ iv = .int .i64 j ∧ wr = W ∧ Hid (∀ k ∈ L.take j, isB i r k = false)) (fun iv _ => n - (intOf iv).toNat)
  case atStart => exact ⟨0, by omega, rfl, rfl, fun d h => by simp at h⟩
  case round =>
    obtain ⟨j, hj, rfl, rfl, h0⟩ := hrel
    by_cases hjn : j < n
    · have j0 : (j : Int) < (n : Int) := by omega
      have j1 : (0 : Int) ≤ (j : Int) := by omega
      obtain ⟨k, hk⟩ : ∃ k, L[j]? = some k := ⟨_, List.getElem?_eq_getElem (by rw [hn.out]; exact hjn)⟩
      obtain ⟨b, o, rfl, _, _, hr⟩ := lS1.at Kt.vals_length j k hk
      have q0 : wr.cell? ⟨b, o + j * 38, none⟩ = some (.int .i64 k.fr) := by have := hr 0 _ rfl; simpa using this
      have q1 : wr.cell? ⟨b, o + j * 38 + 1, none⟩ = some (.int .u32 (k.rd : Int)) := hr 1 _ rfl
      replace hr := k.frame_range hr
      have HS : isB i r k = false → Hid (∀ k ∈ L.take (j + 1), isB i r k = false) := fun hb => by
        intro e he
        rw [List.take_add_one, hk] at he
        rcases List.mem_append.1 he with he | he
        · exact h0.out e he
        · simp at he
          rw [he]
          exact hb
      by_cases hf : k.fr = i
      · have f1 : (k.fr == i) = true := by simp [hf]
        rw [hf] at q0
        by_cases hd : k.rd = r
        · have e : G = some k := hG.out.symm.trans (find_at _ L j k hk (by simp [isB, hf, hd]) h0.out)
          subst e
          have d1 : ((k.rd : Int) == (r : Int)) = true := by simp [hd]
          clear HS h0 hk hf hd f1 hG
          go_wp2_with (first | refine load_range rfl 41 _ rfl (frv k.f) hr rfl Try.underlying41 rfl sizeFr ?_ | (refine store_part rfl 41 _ _ rfl (off := 0) (cells := frc k.f) a2 rfl rfl sizeFr (Nat.le_refl _) (frc_one _) ?_; intro w3 b3 k3; rw [hpa] at b3; have hB3 : Below w.heap.size w w3 := hB.trans (k3.below1 (by omega) hB.size)))
          exact bodyPost_ret (w := w3) (v := .tuple #[.agg (frc k.f), .bool true]) (ret_two rfl rfl b3 Try.underlying41 rfl sizeFr rfl) rfl ⟨rfl, hB3⟩
        · have d1 : ((k.rd : Int) == (r : Int)) = false := by rw [beq_eq_false_iff_ne]; omega
          have HS := HS (by simp [isB, hd])
          clear h0 hk hf hd f1 hr
          go_wp2_with fail
          exact ⟨⟨j + 1, by omega, by go_num, trivial, HS⟩, by simp [intOf]; omega⟩
      · have f1 : (k.fr == i) = false := by rw [beq_eq_false_iff_ne]; exact hf
        have HS := HS (by simp [isB, hf])
        clear h0 hk hf hr q1
        go_wp2_with fail
        exact ⟨⟨j + 1, by omega, by go_num, trivial, HS⟩, by simp [intOf]; omega⟩
    · obtain rfl : j = n := by omega
      have e : G = none := hG.out.symm.trans (find_none _ L (fun k hk => h0.out k (by rw [List.take_of_length_le (by rw [hn.out]; omega)]; exact hk)))
      subst e
      clear h0 lS1 hG
      go_wp2_with (first | refine build_zero builtFr rfl rfl ?_ | (refine store_part rfl 41 _ _ rfl (off := 0) (cells := frc noFr) a2 rfl rfl sizeFr (Nat.le_refl _) (frc_one _) ?_; intro w3 b3 k3; rw [hpa] at b3; have hB3 : Below w.heap.size w w3 := hB.trans (k3.below1 (by omega) hB.size)))
      exact bodyPost_ret (w := w3) (v := .tuple #[.agg (frc noFr), .bool false]) (ret_two rfl rfl b3 Try.underlying41 rfl sizeFr rfl) rfl ⟨rfl, hB3⟩

set_option maxHeartbeats 2000000 in
theorem rkts_ok (L : List Kt) (la lb : Option Addr) (lc ld : Nat) (lm : L.length ≤ 9223372036854775807) (w : World) (hA : Li Kt.vals 0 la L w) (hC : Li Kt.vals 0 lb L w) : Calls Try.prog 41 #[.slice la L.length lc, .slice lb L.length ld] w fun e w' => e = .returned (.bool true) ∧ Below w.heap.size w w' := by
  obtain ⟨n, hn⟩ : ∃ n, Hid (L.length = n) := ⟨_, rfl⟩
  rw [hn.out] at lm ⊢
  have n0 : ((n : Int) != (n : Int)) = false := by simp
  go_enter Try.func41, Try.ntmps41
  go_wp2_with fail
  clear n0
  go_loopw [5] (fun iv wr => ∃ j : Nat, j ≤ n ∧ iv = .int .i64 j ∧ Li Kt.vals 0 la L wr ∧ Li Kt.vals 0 lb L wr ∧ Below w.heap.size w wr) (fun iv _ => n - (intOf iv).toNat)
  case atStart => exact ⟨0, by omega, rfl, hA, hC, Below.refl _ _⟩
  case round =>
    clear hA hC
    obtain ⟨j, hj, rfl, hA, hC, hB⟩ := hrel
    by_cases hjn : j < n
    · have j0 : (j : Int) < (n : Int) := by omega
      have j1 : (0 : Int) ≤ (j : Int) := by omega
      obtain ⟨k, hk⟩ : ∃ k, L[j]? = some k := ⟨_, List.getElem?_eq_getElem (by rw [hn.out]; exact hjn)⟩
      obtain ⟨b, o, rfl, _, hbl, hr⟩ := hA.at Kt.vals_length j k hk
      obtain ⟨b', o', rfl, _, hbl', hr'⟩ := hC.at Kt.vals_length j k hk
      have kK : ∀ w, (binOp .neq 64 (.agg k.vals.toArray) (.agg k.vals.toArray)).run Try.prog w = .ok (.bool false) w := neqKt k
      have la : ∀ w', (∃ p : Regrown, w' = grow (redrawn wr p.d) p.os) → w'.rangeAt b (o + j * 38) k.vals := fun w' ⟨p, e⟩ => e ▸ range_block hr ((below_regrown wr p.d p.os).block b hbl)
      have lb : ∀ w', (∃ p : Regrown, w' = grow (redrawn wr p.d) p.os) → w'.rangeAt b' (o' + j * 38) k.vals := fun w' ⟨p, e⟩ => e ▸ range_block hr' ((below_regrown wr p.d p.os).block b' hbl')
      clear hk hr hr' hbl hbl'
      go_upto_region 6 with fail
      try simp only [Act.put, List.setIfInBounds_toArray, List.set_cons_zero, List.set_cons_succ]
      refine wp_region_quiet_below (by kernel_rfl) (by kernel_rfl) ?_
      repeat (first
        | (go_big_quiet_want; refine quiet_range (off := o + j * 38) rfl rfl la Try.underlying64 rfl sizeKt ?_; simp only [Act.put, List.setIfInBounds_toArray, List.set_cons_zero, List.set_cons_succ]; go_big_quiet_on)
        | (go_big_quiet_want; refine quiet_range (off := o' + j * 38) rfl rfl lb Try.underlying64 rfl sizeKt ?_; simp only [Act.put, List.setIfInBounds_toArray, List.set_cons_zero, List.set_cons_succ]; go_big_quiet_on)
        | go_big_quiet_step (fail))
      refine wpQuiet_nil ?_
      intro _ hw'
      obtain ⟨⟨dq, osq⟩, hw''⟩ := hw'
      have hb := below_regrown wr dq osq
      subst hw''
      generalize grow (redrawn wr dq) osq = w1 at hb ⊢
      replace hA := hA.below hb
      replace hC := hC.below hb
      replace hB := hB.trans (hb.mono hB.size)
      clear hb
      clear la lb kK
      go_wp2_with fail
      exact ⟨⟨j + 1, by omega, by go_num, hA, hC, hB⟩, by simp [intOf]; omega⟩
    · obtain rfl : j = n := by omega
      clear hA hC
      go_wp2_with fail
      go_ret
      exact ⟨rfl, hB⟩

end Go.Proofs.Ythgmecgknhphmaa
