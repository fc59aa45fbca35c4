/-
  Of the texts beneath these laws, in their order: CeN, KtE, CeK, ClI.
  Each theorem says its own conditions.
-/
import Derived.Test.YthgfpdidilolgaaGreatZ04
import Derived.Test.YthgfpdidilolgaaGreatZ02
import Derived.Test.YthgfpdidilolgaaGreatZ00
namespace Go.Proofs.YthgfpdidilolgaaGreat
set_option maxRecDepth 10000
open Go.RowKit Go.Sort
theorem readyC_keeps (c : Co) : (readyC c).self = c.self ∧ (readyC c).own = c.own ∧ (readyC c).wait = c.wait ∧ (readyC c).count = c.count ∧ (readyC c).beat = c.beat ∧ (readyC c).epoch = c.epoch ∧ (readyC c).pr = c.pr ∧ (readyC c).want = c.want ∧ (readyC c).conf = c.conf ∧ (readyC c).mem = c.mem ∧ (readyC c).cut = c.cut ∧ (readyC c).peers = c.peers := by
 unfold readyC
 split <;> exact ⟨rfl, rfl, rfl, rfl, rfl, rfl, rfl, rfl, rfl, rfl, rfl, rfl⟩
theorem goOn_cases (s : Sg) : (insB (readyC s.c) = true ∧ goOnS s = ⟨instC (readyC s.c), [], s.t ++ [viewH (readyC s.c)]⟩) ∨ (insB (readyC s.c) = false ∧ goOnS s = ⟨readyC s.c, s.L, s.t⟩) := by
 unfold goOnS
 cases h : insB (readyC s.c) with
 | true => exact .inl ⟨rfl, rfl⟩
 | false => exact .inr ⟨rfl, rfl⟩
theorem goOn_self (s : Sg) : (goOnS s).c.self = s.c.self := by
 rcases goOn_cases s with ⟨_, e⟩ | ⟨_, e⟩ <;> rw [e] <;> exact (readyC_keeps s.c).1
theorem goOn_count (s : Sg) (h : ∀ i, s.c.count i < 4294967296) (i : Nat) : (goOnS s).c.count i < 4294967296 := by
 rcases goOn_cases s with ⟨_, e⟩ | ⟨_, e⟩ <;> rw [e]
 ·show (0 : Nat) < 4294967296; omega
 ·show (readyC s.c).count i < 4294967296
  rw [(readyC_keeps s.c).2.2.2.1]
  exact h i
theorem goOn_len (s : Sg) : (goOnS s).L.length ≤ s.L.length ∧ (goOnS s).t.length ≤ s.t.length + 1 := by
 rcases goOn_cases s with ⟨_, e⟩ | ⟨_, e⟩ <;> rw [e]
 ·exact ⟨Nat.zero_le _, by simp⟩
 ·exact ⟨Nat.le_refl _, Nat.le_succ _⟩
theorem proposeC_keeps (c : Co) (m : Nat → Nat) : (proposeC c m).self = c.self ∧ (proposeC c m).own = c.own ∧ (proposeC c m).wait = c.wait ∧ (proposeC c m).count = c.count ∧ (proposeC c m).beat = c.beat ∧ (proposeC c m).conf = c.conf ∧ (proposeC c m).mem = c.mem ∧ (proposeC c m).peers = c.peers := by
 unfold proposeC
 split <;> exact ⟨rfl, rfl, rfl, rfl, rfl, rfl, rfl, rfl⟩
theorem tick0_self (c : Co) : (tick0 c).self = c.self := (proposeC_keeps _ _).1
theorem tick0_count (c : Co) : (tick0 c).count = c.count := (proposeC_keeps _ _).2.2.2.1
theorem adopC_keeps (c : Co) (p : Pk) : (adopC c p).self = c.self ∧ (adopC c p).own = c.own ∧ (adopC c p).count = c.count ∧ (adopC c p).beat = c.beat ∧ (adopC c p).conf = c.conf ∧ (adopC c p).mem = c.mem ∧ (adopC c p).epoch = c.epoch ∧ (adopC c p).peers = c.peers := by
 unfold adopC
 split <;> exact ⟨rfl, rfl, rfl, rfl, rfl, rfl, rfl, rfl⟩
theorem recv0_self (c : Co) (p : Pk) : (recv0 c p).self = c.self := (adopC_keeps _ _).1
theorem recv0_count (c : Co) (p : Pk) : (recv0 c p).count = c.count := (adopC_keeps _ _).2.2.1
theorem adopC_kp (c : Co) (p : Pk) (a : Option Addr) (n k : Nat) : adopC (c.kp a n k) p = (adopC c p).kp a n k := by
 unfold adopC
 have e : adoptB (c.kp a n k).pr (c.kp a n k).self (c.kp a n k).own p = adoptB c.pr c.self c.own p := rfl
 rw [e]
 cases adoptB c.pr c.self c.own p <;> rfl
theorem offS_cases (s : Sg) (p : Pk) : ((mostB s.c && Idn.same p.conf s.c.conf) = true ∧ offS s p = offedS s p) ∨ ((mostB s.c && Idn.same p.conf s.c.conf) = false ∧ offS s p = s) := by
 unfold offS
 cases h : mostB s.c && Idn.same p.conf s.c.conf with
 | true => exact .inl ⟨rfl, rfl⟩
 | false => exact .inr ⟨rfl, rfl⟩
theorem offS_self (s : Sg) (p : Pk) : (offS s p).c.self = s.c.self := by
 rcases offS_cases s p with ⟨_, e⟩ | ⟨_, e⟩ <;> rw [e]
 rfl
theorem offS_len (s : Sg) (p : Pk) : (offS s p).L.length ≤ s.L.length + 3 ∧ (offS s p).t.length ≤ s.t.length + 3 := by
 rcases offS_cases s p with ⟨_, e⟩ | ⟨_, e⟩ <;> rw [e]
 ·refine ⟨offO_len _ _ _ _, ?_⟩
  have h := offO_tlen s.c.mem (mostC s.c) p ⟨s.L, s.c.count, []⟩
  show (s.t ++ (offered s p).t.map takeH).length ≤ _
  rw [List.length_append, List.length_map]
  have : (offered s p).t.length ≤ 3 := by unfold offered; simpa using h
  omega
 ·exact ⟨by omega, by omega⟩
theorem max3_run {P : Program} (ts : Array TypeId) (t : TypeId) (x y z : Nat) (w : World) : (Builtin.max_ ts t #[.int .u32 (x : Int), .int .u32 (y : Int), .int .u32 (z : Int)]).run P w = .ok (.int .u32 ((max x (max y z) : Nat) : Int)) w := by
 have e : (Builtin.max_ ts t #[.int .u32 (x : Int), .int .u32 (y : Int), .int .u32 (z : Int)]).run P w = .ok (.int .u32 (if (z : Int) > (if (y : Int) > (x : Int) then (y : Int) else (x : Int)) then (z : Int) else (if (y : Int) > (x : Int) then (y : Int) else (x : Int)))) w := by simp [Builtin.max_, Builtin.max2]
 rw [e]
 congr 2
 split <;> split <;> omega
theorem Blk.und {A B : Nat} {C : Array Value} {T : TypeId} {w w' : World} (h : Blk A C T w) (hb : Below B w w') (hA : A < B) : Blk A C T w' := (hb.block A hA).trans h
def Did (s : Sg) (b : Bool) (B : Nat) (e : Ending) (w' : World) : Prop :=
 ∃ a k ta tk, e = .returned (.tuple #[.agg (coc (s.c.kp a s.L.length k)), .bool b, .slice ta s.t.length tk]) ∧ Li Kt.vals B a s.L w' ∧ Li Hp.vals B ta s.t w'
end Go.Proofs.YthgfpdidilolgaaGreat
namespace Go.Proofs.YthgfpdidilolgaaGreat
set_option maxRecDepth 10000
open Go.RowKit Go.Sort
set_option linter.unusedVariables false
def pickK (L : List Kt) (v : Nat) : Kt := (L[v % L.length]?).getD Kt.zero
def getK (i : Int) (r : Nat) (L : List Kt) : Option Kt := L.find? (isB i r)
def gotF : Option Kt → (Nat → En)
 | some k => k.f
 | none => noFr
theorem find_at (p : Kt → Bool) : ∀ (L : List Kt) (j : Nat) (k : Kt), L[j]? = some k → p k = true → (∀ k' ∈ L.take j, p k' = false) → L.find? p = some k
 | [], j, k, h, _, _ => by simp at h
 | y :: l, 0, k, h, hp, _ => by
  simp at h
  subst h
  simp [hp]
 | y :: l, j + 1, k, h, hp, ha => by
  simp at h
  have hy := ha y (by simp)
  rw [List.find?_cons, hy]
  exact find_at p l j k h hp (fun k' hk => ha k' (by simp [hk]))
theorem find_none (p : Kt → Bool) (L : List Kt) (h : ∀ k ∈ L, p k = false) : L.find? p = none := by
 rw [List.find?_eq_none]
 intro k hk
 rw [h k hk]
 simp
theorem Kt.frame_range (x : Kt) {b o : Nat} {w : World} (h : w.rangeAt b o x.vals) : w.rangeAt b (o + 2) (frv x.f) := fun j v hv => by
 rw [Nat.add_assoc]
 exact h (2 + j) v (by rw [Nat.add_comm]; exact hv)
set_option maxHeartbeats 2000000 in
theorem pick_ok (L : List Kt) (la : Option Addr) (lc v : Nat) (hv : v < 4294967296) (lm : L.length ≤ 9223372036854775807) (w : World) (lS : Li Kt.vals 0 la L w) : Calls Tryz.prog 144 #[.slice la L.length lc, .int .u32 (v : Int)] w fun e w' => e = .returned (.tuple #[.agg (pickK L v).arr, .bool (!L.isEmpty)]) ∧ Below w.heap.size w w' := by
 have b1 := blk_new w Kt.zero.arr 53
 have hB : Below w.heap.size w (w.alloc (.cells Kt.zero.arr 53)) := below_box w _
 have lS1 := lS.below hB
 have hpa : ∀ k : Kt, putAt Kt.zero.arr 0 k.arr.toList = k.arr := fun k => putAt_all _ _ rfl
 by_cases h0 : L = []
 ·subst h0
  have e1 : pickK [] v = Kt.zero := rfl
  rw [e1]
  clear lS lS1
  simp only [List.length_nil, List.isEmpty_nil, Bool.not_true]
  go_enter Tryz.func144, Tryz.ntmps144
  go_upto_region 1 with (refine alloc_zero zeroKt rfl rfl ?_)
  try simp only [Act.put]
  generalize w.alloc (Obj.cells Kt.zero.arr 53) = W at b1 hB ⊢
  go_wp2_with (first | refine build_zero builtKt rfl rfl ?_ | (refine store_part rfl 53 _ _ rfl (off := 0) (cells := Kt.zero.arr) b1 rfl rfl sizeKt (Nat.le_refl _) (Kt.arr_one _) ?_; intro w2 b2 k2; rw [hpa] at b2; have hB2 : Below w.heap.size w w2 := hB.trans (k2.below1 (Nat.le_refl _) hB.size)))
  exact bodyPost_ret (w := w2) (v := .tuple #[.agg Kt.zero.arr, .bool false]) (ret_two rfl rfl b2 Tryz.underlying53 rfl sizeKt rfl) rfl ⟨rfl, hB2⟩
 ·have hp : 0 < L.length := List.length_pos_iff.2 h0
  obtain ⟨x, hx⟩ : ∃ x, L[v % L.length]? = some x := ⟨_, List.getElem?_eq_getElem (Nat.mod_lt _ hp)⟩
  have e1 : pickK L v = x := by rw [pickK, hx]; rfl
  have e2 : (!L.isEmpty) = true := by simp [h0]
  rw [e1, e2]
  obtain ⟨b, o, rfl, _, _, hr⟩ := lS1.at Kt.vals_length (v % L.length) x hx
  have hml := Nat.mod_lt v hp
  have hmo : ((v % L.length : Nat) : Int) = (v : Int) % (L.length : Int) := Int.natCast_emod v L.length
  clear e1 e2 hx h0 lS lS1
  generalize v % L.length = j at *
  generalize L.length = n at *
  have n0 : ((n : Int) == 0) = false := by rw [beq_eq_false_iff_ne]; omega
  have n2 : ¬ (n : Int) = 0 := by omega
  have j0 : (0 : Int) ≤ (v : Int) % (n : Int) := by omega
  have j1 : (v : Int) % (n : Int) < (n : Int) := by omega
  have j2 : ((v : Int) % (n : Int)).toNat = j := by omega
  go_enter Tryz.func144, Tryz.ntmps144
  go_upto_region 1 with (refine alloc_zero zeroKt rfl rfl ?_)
  try simp only [Act.put]
  generalize w.alloc (Obj.cells Kt.zero.arr 53) = W at b1 hB hr ⊢
  go_wp2_with (first | refine load_range rfl 53 _ rfl x.vals hr rfl Tryz.underlying53 rfl sizeKt ?_ | (refine store_part rfl 53 _ _ rfl (off := 0) (cells := x.arr) b1 rfl rfl sizeKt (Nat.le_refl _) (Kt.arr_one _) ?_; intro w2 b2 k2; rw [hpa] at b2; have hB2 : Below w.heap.size w w2 := hB.trans (k2.below1 (Nat.le_refl _) hB.size)))
  exact bodyPost_ret (w := w2) (v := .tuple #[.agg x.arr, .bool true]) (ret_two rfl rfl b2 Tryz.underlying53 rfl sizeKt rfl) rfl ⟨rfl, hB2⟩
set_option maxHeartbeats 2000000 in
theorem get_ok (L : List Kt) (la : Option Addr) (lc : Nat) (i : Int) (r : Nat) (lm : L.length ≤ 9223372036854775807) (w : World) (lS : Li Kt.vals 0 la L w) : Calls Tryz.prog 143 #[.slice la L.length lc, .int .i64 i, .int .u32 (r : Int)] w fun e w' => e = .returned (.tuple #[.agg (frc (gotF (getK i r L))), .bool (getK i r L).isSome]) ∧ Below w.heap.size w w' := by
 obtain ⟨a0, a1, a2, hB⟩ := three_blk (T0 := 3) (T1 := 37) (T2 := 43) (C0 := #[.int .i64 i]) (C1 := #[.int .u32 (r : Int)]) (C2 := frc noFr) (w := w) rfl
 have hmf : ∀ (fn : Fn) (first cap : Array Value) (w : World), (Instr.makeFunc fn first cap).run Tryz.prog w = .ok (.func fn first cap) w := fun _ _ _ _ => rfl
 have hpa : ∀ f, putAt (frc noFr) 0 (frc f).toList = frc f := fun f => putAt_all _ _ rfl
 obtain ⟨G, hG⟩ : ∃ G, Hid (getK i r L = G) := ⟨_, rfl⟩
 rw [hG.out]
 go_enter Tryz.func143, Tryz.ntmps143
 go_upto_region 1 with (refine alloc_zero zeroFr rfl rfl ?_)
 try simp only [Act.put]
 try simp only [alloc_size]
 generalize ((w.alloc (Obj.cells #[Value.int IntKind.i64 i] 3)).alloc (Obj.cells #[Value.int IntKind.u32 (r : Int)] 37)).alloc (Obj.cells (frc noFr) 43) = W at a0 a1 a2 hB ⊢
 go_wp2_with fail
 refine (ixis_ok i r _ _ L la lc lm W (lS.below hB) a0 a1).mono ?_
 rintro e w1 ⟨hF, hb⟩
 replace a2 := a2.below hb
 replace hB := hB.trans (hb.mono hB.size)
 clear hb a0 a1
 rcases hF with ⟨j, k, rfl, hj, hp, hall⟩ | ⟨rfl, hall⟩
 ·obtain rfl : G = some k := hG.out.symm.trans (find_at _ L j k hj hp hall)
  obtain ⟨b, o, rfl, _, _, hr⟩ := (lS.below hB).at Kt.vals_length j k hj
  replace hr := k.frame_range hr
  have hjn : j < L.length := (List.getElem?_eq_some_iff.1 hj).1
  clear hG
  generalize L.length = n at *
  have j0 : ¬ (j : Int) < 0 := by omega
  have j1 : (j : Int) < (n : Int) := by omega
  clear hj hp hall lS
  go_wp2_with (first | refine load_range rfl 43 _ rfl (frv k.f) hr rfl Tryz.underlying43 rfl sizeFr ?_ | (refine store_part rfl 43 _ _ rfl (off := 0) (cells := frc k.f) a2 rfl rfl sizeFr (Nat.le_refl _) (frc_one _) ?_; intro w3 b3 k3; rw [hpa] at b3; have hB3 : Below w.heap.size w w3 := hB.trans (k3.below1 (by omega) hB.size)))
  exact bodyPost_ret (w := w3) (v := .tuple #[.agg (frc k.f), .bool true]) (ret_two rfl rfl b3 Tryz.underlying43 rfl sizeFr rfl) rfl ⟨rfl, hB3⟩
 ·obtain rfl : G = none := hG.out.symm.trans (find_none _ L hall)
  clear hall lS hG
  go_wp2_with (first | refine build_zero builtFr rfl rfl ?_ | (refine store_part rfl 43 _ _ rfl (off := 0) (cells := frc noFr) a2 rfl rfl sizeFr (Nat.le_refl _) (frc_one _) ?_; intro w3 b3 k3; rw [hpa] at b3; have hB3 : Below w.heap.size w w3 := hB.trans (k3.below1 (by omega) hB.size)))
  exact bodyPost_ret (w := w3) (v := .tuple #[.agg (frc noFr), .bool false]) (ret_two rfl rfl b3 Tryz.underlying43 rfl sizeFr rfl) rfl ⟨rfl, hB3⟩
set_option maxHeartbeats 2000000 in
theorem rkts_ok (L : List Kt) (la lb : Option Addr) (lc ld : Nat) (lm : L.length ≤ 9223372036854775807) (w : World) (hA : Li Kt.vals 0 la L w) (hC : Li Kt.vals 0 lb L w) : Calls Tryz.prog 37 #[.slice la L.length lc, .slice lb L.length ld] w fun e w' => e = .returned (.bool true) ∧ Below w.heap.size w w' := by
 obtain ⟨n, hn⟩ : ∃ n, Hid (L.length = n) := ⟨_, rfl⟩
 rw [hn.out] at lm ⊢
 have n0 : ((n : Int) != (n : Int)) = false := by simp
 go_enter Tryz.func37, Tryz.ntmps37
 go_wp2_with fail
 clear n0
 go_loopw [5] (fun iv wr => ∃ j : Nat, j ≤ n ∧ iv = .int .i64 j ∧ Li Kt.vals 0 la L wr ∧ Li Kt.vals 0 lb L wr ∧ Below w.heap.size w wr) (fun iv _ => n - (intOf iv).toNat)
 case atStart => exact ⟨0, by omega, rfl, hA, hC, Below.refl _ _⟩
 case round =>
  clear hA hC
  obtain ⟨j, hj, rfl, hA, hC, hB⟩ := hrel
  by_cases hjn : j < n
  ·have j0 : (j : Int) < (n : Int) := by omega
   have j1 : (0 : Int) ≤ (j : Int) := by omega
   obtain ⟨k, hk⟩ : ∃ k, L[j]? = some k := ⟨_, List.getElem?_eq_getElem (by rw [hn.out]; exact hjn)⟩
   obtain ⟨b, o, rfl, _, hbl, hr⟩ := hA.at Kt.vals_length j k hk
   obtain ⟨b', o', rfl, _, hbl', hr'⟩ := hC.at Kt.vals_length j k hk
   have kK : ∀ w, (binOp .neq 53 (.agg k.vals.toArray) (.agg k.vals.toArray)).run Tryz.prog w = .ok (.bool false) w := neqKt k
   have la : ∀ w', (∃ p : Regrown, w' = grow (redrawn wr p.d) p.os) → w'.rangeAt b (o + j * 38) k.vals := fun w' ⟨p, e⟩ => e ▸ range_block hr ((below_regrown wr p.d p.os).block b hbl)
   have lb : ∀ w', (∃ p : Regrown, w' = grow (redrawn wr p.d) p.os) → w'.rangeAt b' (o' + j * 38) k.vals := fun w' ⟨p, e⟩ => e ▸ range_block hr' ((below_regrown wr p.d p.os).block b' hbl')
   clear hk hr hr' hbl hbl'
   go_upto_region 6 with fail
   try simp only [Act.put, List.setIfInBounds_toArray, List.set_cons_zero, List.set_cons_succ]
   refine wp_region_quiet_below (by kernel_rfl) (by kernel_rfl) ?_
   repeat (first
    | (go_big_quiet_want; refine quiet_range (off := o + j * 38) rfl rfl la Tryz.underlying53 rfl sizeKt ?_; simp only [Act.put, List.setIfInBounds_toArray, List.set_cons_zero, List.set_cons_succ]; go_big_quiet_on)
    | (go_big_quiet_want; refine quiet_range (off := o' + j * 38) rfl rfl lb Tryz.underlying53 rfl sizeKt ?_; simp only [Act.put, List.setIfInBounds_toArray, List.set_cons_zero, List.set_cons_succ]; go_big_quiet_on)
    | go_big_quiet_step (fail))
   refine wpQuiet_nil ?_
   intro _ hw'
   obtain ⟨⟨dq, osq⟩, hw''⟩ := hw'
   have hb := below_regrown wr dq osq
   subst hw''
   generalize grow (redrawn wr dq) osq = w1 at hb ⊢
   replace hA := hA.below hb
   replace hC := hC.below hb
   replace hB := hB.trans (hb.mono hB.size)
   clear hb
   clear la lb kK
   go_wp2_with fail
   exact ⟨⟨j + 1, by omega, by go_num, hA, hC, hB⟩, by simp [intOf]; omega⟩
  ·obtain rfl : j = n := by omega
   clear hA hC
   go_wp2_with fail
   go_ret
   exact ⟨rfl, hB⟩
end Go.Proofs.YthgfpdidilolgaaGreat
namespace Go.Proofs.YthgfpdidilolgaaGreat
set_option maxRecDepth 10000
open Go.RowKit Go.Sort
set_option linter.unusedVariables false
structure Pw where
 fr : Nat
 inc : Nat
 conf : Idn
 mem : Nat → Nat
 count : Nat → Nat
 pr : Idn
 want : Nat → Nat
 rdy : Bool
 ep : Nat
 rd : Nat
 f0 : Nat → En
 f1 : Nat → En
 ro : Nat
 rr : Nat
 f2 : Nat → En
def pwl (x : Pw) : List Value := .int .u32 (x.fr : Int) :: .int .u32 (x.inc : Int) :: (x.conf.vals ++ (row8 x.mem ++ (row8 x.count ++ (x.pr.vals ++ (row8 x.want ++ (.bool x.rdy :: .int .u32 (x.ep : Int) :: .int .u32 (x.rd : Int) :: (frv x.f0 ++ (frv x.f1 ++ (.int .u32 (x.ro : Int) :: .int .u32 (x.rr : Int) :: frv x.f2)))))))))
def pwc (x : Pw) : Array Value := (pwl x).toArray
def Pw.zero : Pw := ⟨0, 0, Idn.zero, noMb, noMb, Idn.zero, noMb, false, 0, 0, noFr, noFr, 0, 0, noFr⟩
theorem pwc_size (x : Pw) : (pwc x).size = 145 := rfl
theorem pwc_one (x : Pw) : (pwc x).all (·.oneCell') = true := by kernel_rfl
theorem zeroPw : (Tryz.prog.info? 116).map (fun i => (i.zero, i.size)) = some (some (.agg (pwc Pw.zero)), 145) := by kernel_rfl
theorem pwc_all (x y : Pw) : putAt (pwc x) 0 (pwc y).toList = pwc y := putAt_all _ _ rfl
theorem Pw.s_count (x : Pw) (m : Nat → Nat) : putAt (pwc x) 13 (mbc m).toList = pwc ⟨x.fr, x.inc, x.conf, x.mem, m, x.pr, x.want, x.rdy, x.ep, x.rd, x.f0, x.f1, x.ro, x.rr, x.f2⟩ := by kernel_rfl
theorem Pw.s_f0 (x : Pw) (f : Nat → En) : putAt (pwc x) 35 (frc f).toList = pwc ⟨x.fr, x.inc, x.conf, x.mem, x.count, x.pr, x.want, x.rdy, x.ep, x.rd, f, x.f1, x.ro, x.rr, x.f2⟩ := by kernel_rfl
theorem Pw.s_f1 (x : Pw) (f : Nat → En) : putAt (pwc x) 71 (frc f).toList = pwc ⟨x.fr, x.inc, x.conf, x.mem, x.count, x.pr, x.want, x.rdy, x.ep, x.rd, x.f0, f, x.ro, x.rr, x.f2⟩ := by kernel_rfl
theorem Pw.s_f2 (x : Pw) (f : Nat → En) : putAt (pwc x) 109 (frc f).toList = pwc ⟨x.fr, x.inc, x.conf, x.mem, x.count, x.pr, x.want, x.rdy, x.ep, x.rd, x.f0, x.f1, x.ro, x.rr, f⟩ := by kernel_rfl
theorem Pw.s_ro (x : Pw) (n : Nat) : (pwc x).setIfInBounds 107 (.int .u32 (n : Int)) = pwc ⟨x.fr, x.inc, x.conf, x.mem, x.count, x.pr, x.want, x.rdy, x.ep, x.rd, x.f0, x.f1, n, x.rr, x.f2⟩ := by kernel_rfl
theorem Pw.s_rr (x : Pw) (n : Nat) : (pwc x).setIfInBounds 108 (.int .u32 (n : Int)) = pwc ⟨x.fr, x.inc, x.conf, x.mem, x.count, x.pr, x.want, x.rdy, x.ep, x.rd, x.f0, x.f1, x.ro, n, x.f2⟩ := by kernel_rfl
def relO (L : List Kt) (v : Nat) : Nat := if L.isEmpty = true then 0 else ((pickK L v).fr % 4294967296).toNat
def relR (L : List Kt) (v : Nat) : Nat := if L.isEmpty = true then 0 else (pickK L v).rd
def relF (L : List Kt) (v : Nat) : Nat → En := if L.isEmpty = true then noFr else (pickK L v).f
def packW (c : Co) (L : List Kt) : Pw :=
 ⟨c.self.toNat, c.own, c.conf, c.mem, if gathB c = true then c.cut else c.count, c.pr, c.want, c.rdy, c.epoch, ownN c,
  gotF (getK c.self (ownN c) L), if 0 < ownN c then gotF (getK c.self (ownN c - 1) L) else noFr, relO L c.beat.now, relR L c.beat.now, relF L c.beat.now⟩
end Go.Proofs.YthgfpdidilolgaaGreat
namespace Go.Proofs.YthgfpdidilolgaaGreat
set_option maxRecDepth 10000
open Go.RowKit Go.Sort
structure Td where
 who : Nat
 inc : Nat
 inn : Idn
 h : Hp
structure Gh where
 k : Nat
 i : Nat
 n : Nat
 X : Idn
 I : Idn
 C : Nat → Nat
 x : Pw
def Gh.pw (X : Idn) (m : Nat → Nat) : Gh := ⟨0, 0, 0, X, Idn.zero, m, Pw.zero⟩
def Gh.pr (i n : Nat) (X I : Idn) (C : Nat → Nat) : Gh := ⟨1, i, n, X, I, C, Pw.zero⟩
def Gh.rk (i n : Nat) (X I : Idn) (K : Nat → Nat) : Gh := ⟨2, i, n, X, I, K, Pw.zero⟩
def Gh.ins (i n : Nat) (X : Idn) : Gh := ⟨3, i, n, X, Idn.zero, noMb, Pw.zero⟩
def Gh.sn (x : Pw) : Gh := ⟨4, 0, 0, Idn.zero, Idn.zero, noMb, x⟩
def Gh.off (j : Nat) (g : Gh) : Prop := (g.k = 0 → g.X.c ≠ j) ∧ (g.k = 1 ∨ g.k = 2 → g.i ≠ j)
theorem off_pw {j : Nat} {X : Idn} {m : Nat → Nat} (h : X.c ≠ j) : (Gh.pw X m).off j := ⟨fun _ => h, fun e => by rcases e with e | e <;> cases e⟩
theorem off_pr {j i n : Nat} {X I : Idn} {C : Nat → Nat} (h : i ≠ j) : (Gh.pr i n X I C).off j := ⟨fun e => (by cases e), fun _ => h⟩
theorem off_rk {j i n : Nat} {X I : Idn} {C : Nat → Nat} (h : i ≠ j) : (Gh.rk i n X I C).off j := ⟨fun e => (by cases e), fun _ => h⟩
theorem off_ins {j i n : Nat} {X : Idn} : (Gh.ins i n X).off j := ⟨fun e => (by cases e), fun e => by rcases e with e | e <;> cases e⟩
theorem off_sn {j : Nat} {x : Pw} : (Gh.sn x).off j := ⟨fun e => (by cases e), fun e => by rcases e with e | e <;> cases e⟩
def PW (G : List Gh) (X : Idn) (m : Nat → Nat) : Prop := ∃ m', Gh.pw X m' ∈ G ∧ ∀ q, q < 8 → m q = m' q
def PR (G : List Gh) (d n : Nat) (X I : Idn) (C : Nat → Nat) : Prop := ∃ C', Gh.pr d n X I C' ∈ G ∧ ∀ q, q < 8 → C q = C' q
structure PeI (G : List Gh) (d : Nat) (x : Pe) : Prop where
 pr : x.pr ≠ x.conf → PR G d x.inc x.pr x.conf x.cut
 rk : x.rdy = true → ∃ I K, Gh.rk d x.inc x.pr I K ∈ G
 ins : x.conf.e ≠ 0 → Gh.ins d x.inc x.conf ∈ G
def cntB (i n : Nat) (I : Idn) (q : Nat) (t : Td) : Bool := decide (t.who = i) && (decide (t.inc = n) && (Idn.same t.inn I && (!t.h.view && decide (t.h.k.fr = (q : Int)))))
def cnt (T : List Td) (i n : Nat) (I : Idn) (q : Nat) : Nat := (T.filter (cntB i n I q)).length
theorem cnt_app (T u : List Td) (i n : Nat) (I : Idn) (q : Nat) : cnt (T ++ u) i n I q = cnt T i n I q + cnt u i n I q := by simp [cnt]
theorem cntB_iff {i n : Nat} {I : Idn} {q : Nat} {t : Td} : cntB i n I q t = true ↔ t.who = i ∧ t.inc = n ∧ t.inn = I ∧ t.h.view = false ∧ t.h.k.fr = (q : Int) := by
 simp only [cntB, Bool.and_eq_true, decide_eq_true_eq, Idn.same_iff, Bool.not_eq_true']
theorem cnt_one (i n : Nat) (I : Idn) (q : Nat) (t : Td) : cnt [t] i n I q = if cntB i n I q t = true then 1 else 0 := by
 unfold cnt
 cases h : cntB i n I q t <;> simp [h]
theorem cnt_none {T : List Td} {i n : Nat} {I : Idn} {q : Nat} (h : ∀ t ∈ T, cntB i n I q t = false) : cnt T i n I q = 0 := by
 unfold cnt
 rw [List.length_eq_zero_iff, List.filter_eq_nil_iff]
 intro t ht
 rw [h t ht]
 exact Bool.false_ne_true
def Own (T : List Td) (I : Idn) (q r : Nat) (f : Nat → En) : Prop := ∃ t ∈ T, t.h.view = false ∧ t.who = q ∧ t.inn = I ∧ t.h.k.fr = (q : Int) ∧ t.h.k.rd = r ∧ ∀ j, j < 6 → t.h.k.f j = f j
def Like (p : Pk) (x : Pw) : Prop := p.n 0 = x.fr ∧ p.n 1 = x.inc ∧ p.conf = x.conf ∧ p.pr = x.pr ∧ (∀ i, i < 8 → p.count i = x.count i ∧ p.want i = x.want i) ∧ p.r = x.rdy ∧ p.n 34 = x.rd ∧
 (∀ j, j < 6 → p.f0 j = x.f0 j ∧ p.f1 j = x.f1 j ∧ p.f2 j = x.f2 j) ∧ p.n 107 = x.ro ∧ p.n 108 = x.rr
structure PI (G : List Gh) (T : List Td) (p : Pk) : Prop where
 lt : p.n 0 < 8
 pw : PW G p.pr p.want
 pe : PeI G (p.n 0) (Go.Proofs.YthgfpdidilolgaaGreat.told p)
 o : 1 < p.n 34 → Own T p.conf (p.n 0) (p.n 34 - 1) p.f1
 n : 1 ≤ p.n 34 → Own T p.conf (p.n 0) (p.n 34) p.f0
 r : 1 ≤ p.n 108 → p.n 107 < 8 ∧ Own T p.conf (p.n 107) (p.n 108) p.f2
structure CI (i : Nat) (c : Co) (L : List Kt) (G : List Gh) (T : List Td) : Prop where
 self : c.self = (i : Int)
 own : c.own ≠ 0
 le : ¬ c.pr.lt c.conf
 ep : c.pr.e ≤ c.epoch
 wi : c.want i = c.own
 mi : c.mem i = c.own
 pw1 : PW G c.pr c.want
 pw2 : PW G c.conf c.mem
 peers : ∀ d, d < 8 → PeI G d (c.peers d)
 g0 : c.pr ≠ c.conf → c.pr.e ≠ 0 ∧ PR G i c.own c.pr c.conf c.cut
 g1 : c.pr ≠ c.conf → c.rdy = false → ∀ q, q < 8 → c.count q = c.cut q ∨ ∃ d, d < 8 ∧ c.want d ≠ 0 ∧ ∃ C, PR G d (c.want d) c.pr c.conf C ∧ c.count q ≤ C q
 g2 : c.rdy = true → c.pr ≠ c.conf ∧ ∃ K, Gh.rk i c.own c.pr c.conf K ∈ G ∧ ∀ q, q < 8 → c.count q = K q
 g3 : ∀ I K, Gh.rk i c.own c.pr I K ∈ G → c.pr ≠ c.conf → c.rdy = true
 g4 : c.pr ≠ c.conf → ∀ q, q < 8 → c.cut q ≤ c.count q
 ins : c.conf.e ≠ 0 → Gh.ins i c.own c.conf ∈ G
 ini : c.conf.e = 0 → c.conf = ⟨0, i, c.own⟩ ∧ ∀ q, q < 8 → c.mem q = put8 noMb i c.own q
 viw : c.conf.e ≠ 0 → ∃ t ∈ T, t.h.view = true ∧ t.h.conf = c.conf
 kept : ∀ k ∈ L, ∃ q, q < 8 ∧ k.fr = ((q : Nat) : Int) ∧ Own T c.conf q k.rd k.f
 kp1 : 1 ≤ c.count i → ∃ k ∈ L, k.fr = (i : Int) ∧ k.rd = c.count i
 kp2 : 2 ≤ c.count i → ∃ k ∈ L, k.fr = (i : Int) ∧ k.rd + 1 = c.count i
 cn : ∀ q, q < 8 → cnt T i c.own c.conf q = c.count q
 t4 : ∀ t ∈ T, t.who = i → t.inc ≤ c.own ∧ (t.inc = c.own → ¬ c.conf.lt t.inn ∧ (t.h.view = true → ¬ c.conf.lt t.h.conf))
 t2 : ∀ t ∈ T, t.who = i → t.inc = c.own → t.inn = c.conf → t.h.view = false → t.h.k.rd ≤ c.count t.h.k.fr.toNat
 gp : ∀ X m, Gh.pw X m ∈ G → X.c = i → X.i ≤ c.own ∧ (X.i = c.own → X.e ≤ c.epoch)
 gr : ∀ n X I C, Gh.pr i n X I C ∈ G → n ≤ c.own ∧ (n = c.own → ¬ c.pr.lt X)
 gk : ∀ n X I K, Gh.rk i n X I K ∈ G → n ≤ c.own ∧ (n = c.own → ¬ c.pr.lt X)
def keyed (a b : Td) : Prop := b.h.view = false ∧ b.inn = a.inn ∧ b.h.k.fr = a.h.k.fr ∧ b.h.k.rd = a.h.k.rd
structure TO (A : List Td) (t : Td) : Prop where
 v : t.h.view = true → ∀ b ∈ A, b.h.view = true → b.h.conf = t.h.conf → (∀ q, q < 8 → b.h.mem q = t.h.mem q) ∧ b.who ≠ t.who
 o : t.h.view = false → t.h.k.fr = (t.who : Int) ∨ ∃ b ∈ A, keyed t b ∧ t.h.k.fr = (b.who : Int)
 c : t.h.view = false → ∀ q : Nat, t.h.k.fr = (q : Int) → t.h.k.rd = cnt A t.who t.inc t.inn q + 1
 f : t.h.view = false → ∀ b ∈ A, keyed t b → (∀ j, j < 6 → b.h.k.f j = t.h.k.f j) ∧ b.who ≠ t.who
structure TA (n : Nat) (G : List Gh) (T : List Td) (t : Td) : Prop where
 who : t.who < n
 inn : ∃ m, PW G t.inn m ∧ m t.who = t.inc
 vm : t.h.view = true → t.h.mem t.who = t.inc ∧ t.inn.lt t.h.conf ∧ PW G t.h.conf t.h.mem ∧ ∃ K, Gh.rk t.who t.inc t.h.conf t.inn K ∈ G ∧ ∀ q, q < 8 → cnt T t.who t.inc t.inn q = K q
 fr : t.h.view = false → ∃ q, q < 8 ∧ t.h.k.fr = ((q : Nat) : Int)
 sf : t.h.view = false → t.h.k.fr = (t.who : Int) → ∀ m, PW G t.inn m → ∀ d, d < 8 → m d ≠ 0 → t.h.k.rd ≤ cnt T t.who t.inc t.inn d + 1
 viw : t.inn.e ≠ 0 → ∃ b ∈ T, b.h.view = true ∧ b.h.conf = t.inn
 ini : t.inn.e = 0 → PW G t.inn (put8 noMb t.inn.c t.inn.i) ∧ t.inn.c < n
structure GI (n : Nat) (G : List Gh) (T : List Td) : Prop where
 f1 : ∀ X m m', Gh.pw X m ∈ G → Gh.pw X m' ∈ G → ∀ q, q < 8 → m q = m' q
 f0 : ∀ X m, Gh.pw X m ∈ G → X.e = 0 → X.c < n ∧ ∀ q, q < 8 → m q = put8 noMb X.c X.i q
 f2 : ∀ d k X I C I' C', Gh.pr d k X I C ∈ G → Gh.pr d k X I' C' ∈ G → I = I' ∧ ∀ q, q < 8 → C q = C' q
 g7 : ∀ d k X, Gh.ins d k X ∈ G → ∃ m, Gh.pw X m ∈ G ∧ ∀ d, d < 8 → m d ≠ 0 → ∃ I K, Gh.rk d (m d) X I K ∈ G
 g10 : ∀ i k X I K, Gh.rk i k X I K ∈ G → ∃ m, Gh.pw X m ∈ G ∧ (∀ d, d < 8 → m d ≠ 0 → ∃ I' C, Gh.pr d (m d) X I' C ∈ G ∧ (I' = I → ∀ q, q < 8 → C q ≤ K q)) ∧
  ∀ q, q < 8 → ∃ d, d < 8 ∧ m d ≠ 0 ∧ ∃ C, Gh.pr d (m d) X I C ∈ G ∧ K q = C q
 snt : ∀ x, Gh.sn x ∈ G → ∀ p, Like p x → PI G T p
 tt : ∀ A t B, T = A ++ t :: B → TO A t
 ta : ∀ t ∈ T, TA n G T t
theorem PW.mono {G G' : List Gh} (h : ∀ g ∈ G, g ∈ G') {X : Idn} {m : Nat → Nat} (k : PW G X m) : PW G' X m := by
 obtain ⟨m', a, b⟩ := k
 exact ⟨m', h _ a, b⟩
theorem PR.mono {G G' : List Gh} (h : ∀ g ∈ G, g ∈ G') {d n : Nat} {X I : Idn} {C : Nat → Nat} (k : PR G d n X I C) : PR G' d n X I C := by
 obtain ⟨m', a, b⟩ := k
 exact ⟨m', h _ a, b⟩
theorem PeI.mono {G G' : List Gh} (h : ∀ g ∈ G, g ∈ G') {d : Nat} {x : Pe} (k : PeI G d x) : PeI G' d x :=
 ⟨fun e => (k.pr e).mono h, fun e => by obtain ⟨I, K, a⟩ := k.rk e; exact ⟨I, K, h _ a⟩, fun e => h _ (k.ins e)⟩
theorem Own.mono {T : List Td} {I : Idn} {q r : Nat} {f : Nat → En} (k : Own T I q r f) (u : List Td) : Own (T ++ u) I q r f := by
 obtain ⟨t, a, b⟩ := k
 exact ⟨t, List.mem_append_left _ a, b⟩
theorem PI.mono {G G' : List Gh} (h : ∀ g ∈ G, g ∈ G') {T : List Td} {p : Pk} (k : PI G T p) (u : List Td) : PI G' (T ++ u) p :=
 ⟨k.lt, k.pw.mono h, k.pe.mono h, fun e => (k.o e).mono u, fun e => (k.n e).mono u, fun e => ⟨(k.r e).1, (k.r e).2.mono u⟩⟩
theorem CI.mono {i : Nat} {c : Co} {L : List Kt} {G G' : List Gh} {T : List Td} (k : CI i c L G T) (h : ∀ g ∈ G, g ∈ G') (hn : ∀ g ∈ G', g ∈ G ∨ g.off i) {u : List Td} (hu : ∀ t ∈ u, t.who ≠ i) : CI i c L G' (T ++ u) where
 self := k.self
 own := k.own
 le := k.le
 ep := k.ep
 wi := k.wi
 mi := k.mi
 pw1 := k.pw1.mono h
 pw2 := k.pw2.mono h
 peers := fun d hd => (k.peers d hd).mono h
 g0 := fun e => ⟨(k.g0 e).1, (k.g0 e).2.mono h⟩
 g1 := fun e e' q hq => by
  rcases k.g1 e e' q hq with a | ⟨d, hd, a, C, b, b'⟩
  ·exact .inl a
  ·exact .inr ⟨d, hd, a, C, b.mono h, b'⟩
 g2 := fun e => by
  obtain ⟨a, K, b, b'⟩ := k.g2 e
  exact ⟨a, K, h _ b, b'⟩
 g3 := fun I K e => k.g3 I K ((hn _ e).resolve_right fun a => a.2 (.inr rfl) rfl)
 g4 := k.g4
 ins := fun e => h _ (k.ins e)
 ini := k.ini
 viw := fun e => by
  obtain ⟨t, a, b⟩ := k.viw e
  exact ⟨t, List.mem_append_left _ a, b⟩
 kept := fun x hx => by
  obtain ⟨q, a, b, d⟩ := k.kept x hx
  exact ⟨q, a, b, d.mono u⟩
 kp1 := k.kp1
 kp2 := k.kp2
 cn := fun q hq => by
  rw [cnt_app, k.cn q hq, cnt_none, Nat.add_zero]
  intro t ht
  cases hb : cntB i c.own c.conf q t with
  | false => rfl
  | true => exact absurd (cntB_iff.1 hb).1 (hu t ht)
 t4 := fun t ht => by
  rcases List.mem_append.1 ht with a | a
  ·exact k.t4 t a
  ·exact fun e => absurd e (hu t a)
 t2 := fun t ht => by
  rcases List.mem_append.1 ht with a | a
  ·exact k.t2 t a
  ·exact fun e => absurd e (hu t a)
 gp := fun X m e => by
  rcases hn _ e with a | a
  ·exact k.gp X m a
  ·exact fun e => absurd e (a.1 rfl)
 gr := fun n X I C e => by
  rcases hn _ e with a | a
  ·exact k.gr n X I C a
  ·exact absurd rfl (a.2 (.inl rfl))
 gk := fun n X I K e => by
  rcases hn _ e with a | a
  ·exact k.gk n X I K a
  ·exact absurd rfl (a.2 (.inr rfl))
structure At (n : Nat) (s : Nat → Co × List Kt) (i : Nat) (c : Co) (L : List Kt) (G : List Gh) (T : List Td) : Prop where
 hi : i < n
 hn : n ≤ 8
 g : GI n G T
 o : ∀ j, j < n → j ≠ i → CI j (s j).1 (s j).2 G T
 c : CI i c L G T
theorem PW.same {n : Nat} {G : List Gh} {T : List Td} (g : GI n G T) {X : Idn} {m m' : Nat → Nat} (a : PW G X m) (b : PW G X m') (q : Nat) (hq : q < 8) : m q = m' q := by
 obtain ⟨x, a, a'⟩ := a
 obtain ⟨y, b, b'⟩ := b
 rw [a' q hq, b' q hq, g.f1 X x y a b q hq]
theorem PR.same {n : Nat} {G : List Gh} {T : List Td} (g : GI n G T) {d k : Nat} {X I I' : Idn} {C C' : Nat → Nat} (a : PR G d k X I C) (b : PR G d k X I' C') : I = I' ∧ ∀ q, q < 8 → C q = C' q := by
 obtain ⟨x, a, a'⟩ := a
 obtain ⟨y, b, b'⟩ := b
 obtain ⟨e, e'⟩ := g.f2 d k X I x I' y a b
 exact ⟨e, fun q hq => by rw [a' q hq, b' q hq, e' q hq]⟩
theorem ord_zero {x y : Pe} (h1 : ordP x y ≠ -1) (h2 : ordP x y ≠ 1) : y.inc = x.inc ∧ y.pr = x.pr := by
 unfold ordP orI at h1 h2
 rcases cmpN_cases y.inc x.inc with ⟨_, e⟩ | ⟨_, e⟩ | ⟨a, e⟩ <;> rw [e] at h1 h2
 ·simp at h1
 ·simp at h2
 ·simp only [if_true, orI] at h1 h2
  rcases cmpId_cases y.pr x.pr with ⟨_, e⟩ | ⟨_, e⟩ | ⟨b, e⟩ <;> rw [e] at h1 h2
  ·simp at h1
  ·simp at h2
  ·exact ⟨a, b⟩
theorem PeI.upd {n : Nat} {G : List Gh} {T : List Td} (g : GI n G T) {d : Nat} {x y : Pe} (hx : PeI G d x) (hy : PeI G d y) : PeI G d (updP x y) := by
 unfold updP
 split
 ·exact hx
 ·rename_i h1
  split
  ·exact hy
  ·rename_i h2
   obtain ⟨e1, e2⟩ := ord_zero h1 h2
   have rk : (x.rdy || y.rdy) = true → ∃ I K, Gh.rk d x.inc x.pr I K ∈ G := fun e => by
    rcases Bool.or_eq_true _ _ ▸ e with e | e
    ·exact hx.rk e
    ·rw [← e1, ← e2]; exact hy.rk e
   unfold togP
   split
   ·refine ⟨fun e => ?_, rk, fun e => ?_⟩
    ·have := hy.pr (by rw [e2]; exact e)
     rw [e1, e2] at this
     exact this
    ·have := hy.ins e
     rw [e1] at this
     exact this
   ·split
    ·rename_i h3
     have ec : y.conf = x.conf := by
      rcases cmpId_cases y.conf x.conf with ⟨_, e⟩ | ⟨_, e⟩ | ⟨b, _⟩
      ·rw [e] at h3; cases h3
      ·rw [e] at h3; cases h3
      ·exact b
     refine ⟨fun e => ?_, rk, hx.ins⟩
     have a := hx.pr e
     have b := hy.pr (by rw [e2, ec]; exact e)
     rw [e1, e2] at b
     have hs := (PR.same g a b).2
     obtain ⟨C, k1, k2⟩ := a
     refine ⟨C, k1, fun q hq => ?_⟩
     show max (x.cut q) (y.cut q) = C q
     rw [← hs q hq, Nat.max_self]
     exact k2 q hq
    ·exact ⟨hx.pr, rk, hx.ins⟩
end Go.Proofs.YthgfpdidilolgaaGreat
