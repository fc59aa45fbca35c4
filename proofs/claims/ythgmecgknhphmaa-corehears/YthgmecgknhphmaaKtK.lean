/-
  The document's Offer: what is kept, the counts, and which frames were taken, once a packet's frames were offered.
  Conditions: what is kept takes no more bytes than a list may.
-/
import Derived.Test.YthgmecgknhphmaaKtJ
namespace Go.Proofs.Ythgmecgknhphmaa
set_option maxRecDepth 10000
set_option linter.unusedSimpArgs false
open Go.RowKit Go.Sort
set_option linter.unusedVariables false

theorem roffer_ok (s : Os) (x : Kt) (B : Nat) (m o : Nat → Nat) (w0 : World) (a b : Option Addr) (k j : Nat) (hc : ∀ i, s.c i < 4294967296) (hL : (s.L.length + 1) * 352 ≤ 140737488355328) (hT : s.t.length ≤ 10) (w : World) (hB : Below w0.heap.size w0 w) (hl : Li Kt.vals 0 a s.L w0 ∨ Li Kt.vals B a s.L w) (hg : Lg Kt.vals 38 64 B b j s.t w) (hBw : B ≤ w.heap.size) :
    Calls Try.prog 107 #[.agg (stc (.slice a s.L.length k) s.c (.slice b s.t.length j)), .agg (mbc m), .agg x.arr, .agg (mbc o)] w fun e w' =>
      (∃ a' k' b' j', e = .returned (.agg (stc (.slice a' (stepO m o s x).L.length k') (stepO m o s x).c (.slice b' (stepO m o s x).t.length j'))) ∧ (Li Kt.vals 0 a' (stepO m o s x).L w0 ∨ Li Kt.vals B a' (stepO m o s x).L w') ∧ Lg Kt.vals 38 64 B b' j' (stepO m o s x).t w') ∧ Below B w w' := by
  have lS : Li Kt.vals 0 a s.L w := by
    rcases hl with h | h
    · exact h.below hB
    · exact h.mono (Nat.zero_le _)
  cases ho : offB s.c m o x with
  | false =>
    rw [step_no m o s x ho]
    refine (roffer_no s.L s.t a b k j s.c m o x hc ho w lS).mono ?_
    rintro e w' ⟨rfl, hb⟩
    exact ⟨⟨a, k, b, j, rfl, hl.imp id (fun h => h.below hb), hg.below hb⟩, hb.mono hBw⟩
  | true =>
    rw [step_yes m o s x ho]
    refine (roffer_yes s.L s.t a b k j B s.c m o x hc hL hT ho w lS hg hBw).mono ?_
    rintro e w' ⟨⟨a', k', b', j', rfl, h1, h2⟩, hb⟩
    exact ⟨⟨a', k', b', j', rfl, .inr (h1.mono hBw), h2⟩, hb⟩

theorem build_kt3 {ops : Array Oper} {rest : List Oper} {op : Oper} {a : Act} {w : World} {Q : Exit → Act → World → Prop} (hgd : op.guard = none) (x y z : Operand) (ho : op.op = .build 64 #[(0, x), (1, y), (2, z)]) (i : Int) (r : Nat) (f : Nat → En) (hr : r < 4294967296)
    (hx : a.eval x = .int .i64 i) (hy : a.eval y = .int .u32 (r : Int)) (hz : a.eval z = .agg (frc f)) (h : wpList Try.prog ops Q rest (a.put op.dst (.agg (Kt.mk i r f hr).arr)) w) : wpList Try.prog ops Q (op :: rest) a w :=
  build_as hgd 64 _ ho (by simp only [List.map_toArray, List.map_cons, List.map_nil, hx, hy, hz]; exact builtKt3 i r f hr) h

structure RfS (n K B : Nat) (w0 w00 : World) (m o : Nat → Nat) (p : Pk) (s : Os) (w : World) : Prop where
  m : Blk (n + 1) (mbc m) 28 w
  p : Blk (n + 1 + 1) (pkc p) 50 w
  o : Blk (n + 1 + 1 + 1) (mbc o) 29 w
  r : Blk (n + 1 + 1 + 1 + 1) (mbc noMb) 29 w
  k : ∃ a k b j, Blk K (stc (.slice a s.L.length k) s.c (.slice b s.t.length j)) 148 w ∧ (Li Kt.vals 0 a s.L w00 ∨ Li Kt.vals B a s.L w) ∧ Lg Kt.vals 38 64 B b j s.t w
  h1 : n + 1 + 1 + 1 + 1 < K
  h2 : K < B
  h3 : B ≤ w.heap.size
  hB : Below n w0 w

def OfferedV (s : Os) (B : Nat) (w00 : World) (e : Ending) (w' : World) : Prop := ∃ a k b j, e = .returned (.tuple #[.slice a s.L.length k, .agg (mbc s.c), .slice b s.t.length j]) ∧ (Li Kt.vals 0 a s.L w00 ∨ Li Kt.vals B a s.L w') ∧ Li Kt.vals B b s.t w'
set_option maxHeartbeats 8000000 in
theorem roffersV_ok (L : List Kt) (la : Option Addr) (lc : Nat) (c m o : Nat → Nat) (p : Pk) (hc : ∀ i, c i < 4294967296) (hl : L.length * 352 ≤ 140737488351232) (w00 w : World) (h00 : Below w00.heap.size w00 w) (lS : Li Kt.vals 0 la L w00) :
    Calls Try.prog 87 #[.slice la L.length lc, .agg (mbc c), .agg (mbc m), .agg (pkc p), .agg (mbc o)] w fun e w' => OfferedV (offO m o p (Os.mk L c [])) w.heap.size w00 e w' ∧ Below w.heap.size w w' := by
  have hpa : ∀ C D : Array Value, C.size = D.size → putAt C 0 D.toList = D := fun C D h => putAt_all C D h
  obtain ⟨a0, a1, a2, a3, a4, hB⟩ := five_blk (T0 := 29) (T1 := 28) (T2 := 50) (T3 := 29) (T4 := 29) (C0 := mbc c) (C1 := mbc m) (C2 := pkc p) (C3 := mbc o) (C4 := mbc noMb) (w := w) rfl
  obtain ⟨S3, hS3⟩ : ∃ S3, Hid (offO m o p (Os.mk L c []) = S3) := ⟨_, rfl⟩
  rw [hS3.out]
  go_enter Try.func87, Try.ntmps87
  go_upto_region 1 with (refine alloc_zero zeroCt rfl rfl ?_)
  try simp only [Act.put, List.setIfInBounds_toArray, List.set_cons_zero, List.set_cons_succ]
  try simp only [alloc_size]
  generalize ((((w.alloc (Obj.cells (mbc c) 29)).alloc (Obj.cells (mbc m) 28)).alloc (Obj.cells (pkc p) 50)).alloc (Obj.cells (mbc o) 29)).alloc (Obj.cells (mbc noMb) 29) = W at a0 a1 a2 a3 a4 hB ⊢
  have hW4 := a4.lt
  have b3 := blk_new W (stc (.slice la L.length lc) c (.slice none 0 0)) 148
  have hb3 : Below W.heap.size W (W.alloc (.cells (stc (.slice la L.length lc) c (.slice none 0 0)) 148)) := below_box W _
  have hs3 : W.heap.size < (W.alloc (.cells (stc (.slice la L.length lc) c (.slice none 0 0)) 148)).heap.size := by simp
  go_upto_region 2 with (first | refine load_blk rfl 29 _ rfl a0 rfl Try.underlying29 rfl sizeCt ?_ | refine build_as rfl 148 #[(0, .tmp 14), (1, .tmp 15)] rfl (C := (stc (.slice la L.length lc) c (.slice none 0 0))) (by kernel_rfl) ?_ | refine alloc_zero zeroSt rfl rfl ?_ | refine store_new rfl 148 _ _ rfl (cells := (stc (.slice la L.length lc) c (.slice none 0 0))) rfl rfl sizeSt rfl (stc_one _ _ _ _ _ _ _) ?_)
  try simp only [Act.put]
  generalize W.alloc (Obj.cells (stc (.slice la L.length lc) c (.slice none 0 0)) 148) = V at b3 hb3 hs3 ⊢
  obtain ⟨B, hBd⟩ : ∃ B, Hid (V.heap.size = B) := ⟨_, rfl⟩
  have hS : RfS w.heap.size W.heap.size B w w00 m o p (Os.mk L c []) V := ⟨a1.below hb3, a2.below hb3, a3.below hb3, a4.below hb3, ⟨la, lc, none, 0, b3, .inl lS, Lg.none _ _ _⟩, hW4, by rw [← hBd.out]; exact hs3, by rw [hBd.out]; exact Nat.le_refl _, hB.trans (hb3.mono hB.size)⟩
  clear b3 hb3 hs3 a0 a1 a2 a3 a4 hBd hB
  generalize W.heap.size = K at *
  have q34 := hS.p.cell 34 _ (pk_get34 p)
  by_cases h1 : 1 < p.n 34
  · have g1 : (1 : Int) < (p.n 34 : Int) := by omega
    have e34 : (p.n 34 : Int) - 1 = ((p.n 34 - 1 : Nat) : Int) := by omega
    have hp34 := p.lt 34
    have hS3 : Hid (stepO m o (stepO m o (stepO m o (Os.mk L c []) (kO p)) (kN p)) (kR p) = S3) := by
      have := hS3.out
      rw [offO, firstO, if_pos h1] at this
      exact this
    obtain ⟨sm, sp, so, sr, ⟨xa, xk, xb, xj, sk, sl, sg⟩, s1, s2, s3, sB⟩ := hS
    have c0 := sp.cell 0 _ (pk_get0 p)
    have e0 := sp.cell 34 _ (pk_get34 p)
    have hfl := p.lt 0
    have pp := roffer_ok (Os.mk L c []) (kO p) B m o w00 xa xb xk xj hc (by show (L.length + 1) * 352 ≤ _; omega) (by simp) _ (h00.trans (sB.mono h00.size)) sl sg s3
    have hc1 := step_lt m o (Os.mk L c []) (kO p) hc
    have hle0 := step_len m o (Os.mk L c []) (kO p)
    have hlt0 := step_tlen m o (Os.mk L c []) (kO p)
    obtain ⟨q0, hq0⟩ : ∃ q, Hid (stepO m o (Os.mk L c []) (kO p) = q) := ⟨_, rfl⟩
    rw [hq0.out] at pp hc1 hle0 hlt0 hS3
    clear hq0
    go_wp2_with (first | refine load_blk rfl 148 _ rfl sk rfl Try.underlying148 rfl sizeSt ?_ | refine load_blk rfl 28 _ rfl sm rfl Try.underlying28 rfl sizeMb ?_ | refine load_blk rfl 29 _ rfl so rfl Try.underlying29 rfl sizeCt ?_ | refine load_part rfl 41 _ rfl (o := 71) sp rfl (frv p.f1) (part_f1 p) Try.underlying41 rfl sizeFr ?_ | refine build_kt3 rfl _ _ _ rfl (p.n 0 : Int) (p.n 34 - 1) p.f1 (kO p).lt rfl (by first | rfl | exact congrArg (Value.int IntKind.u32) e34) rfl ?_)
    refine pp.mono ?_
    rintro r y0 ⟨⟨ya, yk, yb, yj, rfl, yl, yg⟩, hb⟩
    clear pp c0 e0 sl sg hfl
    replace sm := sm.under hb (by omega)
    replace sp := sp.under hb (by omega)
    replace so := so.under hb (by omega)
    replace sr := sr.under hb (by omega)
    replace sk := sk.under hb (by omega)
    replace sB := sB.trans (hb.mono (by omega))
    replace s3 := Nat.le_trans s3 hb.size
    clear hb
    go_upto_region 4 with (refine store_part rfl 148 _ _ rfl (off := 0) (cells := stc (.slice ya q0.L.length yk) q0.c (.slice yb q0.t.length yj)) sk rfl rfl sizeSt (by rw [stc_size, stc_size]; omega) (stc_one _ _ _ _ _ _ _) ?_; intro v0 ck kk'; rw [hpa _ _ (by rw [stc_size, stc_size])] at ck)
    try simp only [Act.put]
    replace sl : Li Kt.vals 0 ya q0.L w00 ∨ Li Kt.vals B ya q0.L v0 := yl.imp id (fun h => h.kp kk' (by simp; omega))
    have hS : RfS w.heap.size K B w w00 m o p q0 v0 := ⟨sm.kp1 kk' (by omega), sp.kp1 kk' (by omega), so.kp1 kk' (by omega), sr.kp1 kk' (by omega), ⟨ya, yk, yb, yj, ck, sl, yg.kp kk' (by simp; omega)⟩, s1, s2, Nat.le_trans s3 kk'.size, sB.trans (kk'.below1 (by omega) sB.size)⟩
    clear sm sp so sr ck sl yg yl kk' sk s1 s2 s3 sB
    clear g1 q34 hp34 e34
    have hle : q0.L.length ≤ L.length + 1 := hle0
    have hlt : q0.t.length ≤ 1 := hlt0
    have hl1 : (q0.L.length + 1) * 352 ≤ 140737488355328 := by omega
    have ht1 : q0.t.length ≤ 10 := by omega
    obtain ⟨sm, sp, so, sr, ⟨xa, xk, xb, xj, sk, sl, sg⟩, s1, s2, s3, sB⟩ := hS
    have c1 := sp.cell 0 _ (pk_get0 p)
    have e1 := sp.cell 34 _ (pk_get34 p)
    have hfl := p.lt 0
    have pp := roffer_ok q0 (kN p) B m o w00 xa xb xk xj hc1 hl1 ht1 _ (h00.trans (sB.mono h00.size)) sl sg s3
    have hc2 := step_lt m o q0 (kN p) hc1
    have hle1 := step_len m o q0 (kN p)
    have hlt1 := step_tlen m o q0 (kN p)
    obtain ⟨q1, hq1⟩ : ∃ q, Hid (stepO m o q0 (kN p) = q) := ⟨_, rfl⟩
    rw [hq1.out] at pp hc2 hle1 hlt1 hS3
    clear hq1
    go_wp2_with (first | refine load_blk rfl 148 _ rfl sk rfl Try.underlying148 rfl sizeSt ?_ | refine load_blk rfl 28 _ rfl sm rfl Try.underlying28 rfl sizeMb ?_ | refine load_blk rfl 29 _ rfl so rfl Try.underlying29 rfl sizeCt ?_ | refine load_part rfl 41 _ rfl (o := 35) sp rfl (frv p.f0) (part_f0 p) Try.underlying41 rfl sizeFr ?_ | refine build_kt3 rfl _ _ _ rfl (p.n 0 : Int) (p.n 34) p.f0 (p.lt 34) rfl rfl rfl ?_)
    refine pp.mono ?_
    rintro r y1 ⟨⟨ya, yk, yb, yj, rfl, yl, yg⟩, hb⟩
    clear pp c1 e1 sl sg hfl
    replace sm := sm.under hb (by omega)
    replace sp := sp.under hb (by omega)
    replace so := so.under hb (by omega)
    replace sr := sr.under hb (by omega)
    replace sk := sk.under hb (by omega)
    replace sB := sB.trans (hb.mono (by omega))
    replace s3 := Nat.le_trans s3 hb.size
    clear hb
    go_upto_region 5 with (refine store_part rfl 148 _ _ rfl (off := 0) (cells := stc (.slice ya q1.L.length yk) q1.c (.slice yb q1.t.length yj)) sk rfl rfl sizeSt (by rw [stc_size, stc_size]; omega) (stc_one _ _ _ _ _ _ _) ?_; intro v1 ck kk'; rw [hpa _ _ (by rw [stc_size, stc_size])] at ck)
    try simp only [Act.put]
    replace sl : Li Kt.vals 0 ya q1.L w00 ∨ Li Kt.vals B ya q1.L v1 := yl.imp id (fun h => h.kp kk' (by simp; omega))
    have hS : RfS w.heap.size K B w w00 m o p q1 v1 := ⟨sm.kp1 kk' (by omega), sp.kp1 kk' (by omega), so.kp1 kk' (by omega), sr.kp1 kk' (by omega), ⟨ya, yk, yb, yj, ck, sl, yg.kp kk' (by simp; omega)⟩, s1, s2, Nat.le_trans s3 kk'.size, sB.trans (kk'.below1 (by omega) sB.size)⟩
    clear sm sp so sr ck sl yg yl kk' sk s1 s2 s3 sB
    have hl2 : (q1.L.length + 1) * 352 ≤ 140737488355328 := by omega
    have ht2 : q1.t.length ≤ 10 := by omega
    obtain ⟨sm, sp, so, sr, ⟨xa, xk, xb, xj, sk, sl, sg⟩, s1, s2, s3, sB⟩ := hS
    have c2 := sp.cell 107 _ (pk_get107 p)
    have e2 := sp.cell 108 _ (pk_get108 p)
    have hfl := p.lt 107
    have pp := roffer_ok q1 (kR p) B m o w00 xa xb xk xj hc2 hl2 ht2 _ (h00.trans (sB.mono h00.size)) sl sg s3
    have hc3 := step_lt m o q1 (kR p) hc2
    have hle2 := step_len m o q1 (kR p)
    have hlt2 := step_tlen m o q1 (kR p)
    obtain ⟨q2, hq2⟩ : ∃ q, Hid (stepO m o q1 (kR p) = q) := ⟨_, rfl⟩
    rw [hq2.out] at pp hc3 hle2 hlt2 hS3
    clear hq2
    go_wp2_with (first | refine load_blk rfl 148 _ rfl sk rfl Try.underlying148 rfl sizeSt ?_ | refine load_blk rfl 28 _ rfl sm rfl Try.underlying28 rfl sizeMb ?_ | refine load_blk rfl 29 _ rfl so rfl Try.underlying29 rfl sizeCt ?_ | refine load_part rfl 41 _ rfl (o := 109) sp rfl (frv p.f2) (part_f2 p) Try.underlying41 rfl sizeFr ?_ | refine build_kt3 rfl _ _ _ rfl (p.n 107 : Int) (p.n 108) p.f2 (p.lt 108) rfl rfl rfl ?_)
    refine pp.mono ?_
    rintro r y2 ⟨⟨ya, yk, yb, yj, rfl, yl, yg⟩, hb⟩
    clear pp c2 e2 sl sg hfl
    replace sm := sm.under hb (by omega)
    replace sp := sp.under hb (by omega)
    replace so := so.under hb (by omega)
    replace sr := sr.under hb (by omega)
    replace sk := sk.under hb (by omega)
    replace sB := sB.trans (hb.mono (by omega))
    replace s3 := Nat.le_trans s3 hb.size
    clear hb
    go_upto_region 6 with (refine store_part rfl 148 _ _ rfl (off := 0) (cells := stc (.slice ya q2.L.length yk) q2.c (.slice yb q2.t.length yj)) sk rfl rfl sizeSt (by rw [stc_size, stc_size]; omega) (stc_one _ _ _ _ _ _ _) ?_; intro v2 ck kk'; rw [hpa _ _ (by rw [stc_size, stc_size])] at ck)
    try simp only [Act.put]
    replace sl : Li Kt.vals 0 ya q2.L w00 ∨ Li Kt.vals B ya q2.L v2 := yl.imp id (fun h => h.kp kk' (by simp; omega))
    have hS : RfS w.heap.size K B w w00 m o p q2 v2 := ⟨sm.kp1 kk' (by omega), sp.kp1 kk' (by omega), so.kp1 kk' (by omega), sr.kp1 kk' (by omega), ⟨ya, yk, yb, yj, ck, sl, yg.kp kk' (by simp; omega)⟩, s1, s2, Nat.le_trans s3 kk'.size, sB.trans (kk'.below1 (by omega) sB.size)⟩
    clear sm sp so sr ck sl yg yl kk' sk s1 s2 s3 sB
    obtain rfl : S3 = q2 := hS3.out.symm
    obtain ⟨sm, sp, so, res, ⟨xa, xk, xb, xj, sk, sl, sg⟩, s1, s2, s3, hB⟩ := hS
    clear sm sp so hS3
    replace hB := hB.drew
    replace res := res.drew
    replace sl : Li Kt.vals 0 xa S3.L w00 ∨ Li Kt.vals B xa S3.L (v2.drew) := sl.imp id (fun h => h.below (Below.refl _ _).drew)
    replace sg : Lg Kt.vals 38 64 B xb xj S3.t (v2.drew) := sg.below (Below.refl _ _).drew
    refine wp_region_held_drew (S := fun w' => Blk K (stc (.slice xa S3.L.length xk) S3.c (.slice xb S3.t.length xj)) 148 w') (by kernel_rfl) sk.drew (fun hHeld => ?_)
    refine tkH 0 (v := ?v1) rfl (by kernel_rfl) (fun _ _ _ h => h) (Or.inl ⟨by rfl, ?hy1⟩) hHeld ?rest1
    case hy1 => (intro w hSw; clear hSw; go_simp; try with_reducible rfl)
    try simp only [List.getElem_toArray, List.getElem_cons_succ, List.getElem_cons_zero, Act.put, List.setIfInBounds_toArray, List.set_cons_succ, List.set_cons_zero]
    refine tkH 1 (v := ?v2) rfl (by kernel_rfl) (fun _ _ _ h => h) (Or.inl ⟨by rfl, ?hy2⟩) hHeld ?rest2
    case hy2 => (intro w hSw; have kc : w.cell? ⟨K, 0, none⟩ = some (.slice xa S3.L.length xk) := hSw.cell 0 _ rfl; clear hSw; go_simp; try with_reducible rfl)
    try simp only [List.getElem_toArray, List.getElem_cons_succ, List.getElem_cons_zero, Act.put, List.setIfInBounds_toArray, List.set_cons_succ, List.set_cons_zero]
    refine tkH 2 (v := ?v3) rfl (by kernel_rfl) (fun _ _ _ h => h) (Or.inl ⟨by rfl, ?hy3⟩) hHeld ?rest3
    case hy3 => (intro w hSw; clear hSw; go_simp; try with_reducible rfl)
    try simp only [List.getElem_toArray, List.getElem_cons_succ, List.getElem_cons_zero, Act.put, List.setIfInBounds_toArray, List.set_cons_succ, List.set_cons_zero]
    refine' tkH 3 (v := _) rfl (by kernel_rfl) (fun _ _ _ h => h) (yieldsIf_load_mid (by rfl) _ _ rfl K 1 rfl (row8 S3.c) _ ?hS4 Try.underlying29 rfl sizeCt) hHeld ?rest4
    case hS4 => exact fun w h => h.range 1 _ (stc_c _ _ _)
    try simp only [List.getElem_toArray, List.getElem_cons_succ, List.getElem_cons_zero, Act.put, List.setIfInBounds_toArray, List.set_cons_succ, List.set_cons_zero]
    refine tkH 4 (v := ?v5) rfl (by kernel_rfl) (fun _ _ _ h => h) (Or.inl ⟨by rfl, ?hy5⟩) hHeld ?rest5
    case hy5 => (intro w hSw; clear hSw; go_simp; try with_reducible rfl)
    try simp only [List.getElem_toArray, List.getElem_cons_succ, List.getElem_cons_zero, Act.put, List.setIfInBounds_toArray, List.set_cons_succ, List.set_cons_zero]
    refine tkH 5 (v := ?v6) rfl (by kernel_rfl) (fun _ _ _ h => h) (Or.inl ⟨by rfl, ?hy6⟩) hHeld ?rest6
    case hy6 => (intro w hSw; have kc : w.cell? ⟨K, 9, none⟩ = some (.slice xb S3.t.length xj) := hSw.cell 9 _ rfl; clear hSw; go_simp; try with_reducible rfl)
    try simp only [List.getElem_toArray, List.getElem_cons_succ, List.getElem_cons_zero, Act.put, List.setIfInBounds_toArray, List.set_cons_succ, List.set_cons_zero]
    refine tkH 6 (v := ?v7) rfl (by kernel_rfl) (fun _ _ _ h => h) (Or.inl ⟨by rfl, ?hy7⟩) hHeld ?rest7
    case hy7 => (intro w hSw; clear hSw; go_simp; try with_reducible rfl)
    try simp only [List.getElem_toArray, List.getElem_cons_succ, List.getElem_cons_zero, Act.put, List.setIfInBounds_toArray, List.set_cons_succ, List.set_cons_zero]
    refine wpAnyH_ready (rs := [7]) (by kernel_rfl) (by simp) ?_
    refine AllReadyH.cons rfl (fun KK hK => ?_) (AllReadyH.nil)
    rw [if_pos (by rfl)]
    refine wp_store_all 29 _ _ rfl (cells := mbc S3.c) res rfl rfl sizeCt rfl (mbc_one _) ?_
    intro u hn hk
    replace sl : Li Kt.vals 0 xa S3.L w00 ∨ Li Kt.vals B xa S3.L u := sl.imp id (fun h => h.kp hk (by simp; omega))
    replace sg := sg.kp hk (by simp; omega)
    replace hB := hB.trans (hk.below1 (by omega) hB.size)
    refine hK.out _ _ (hHeld.kp1 hk (by omega)) (fun hHeld => ?_)
    clear hK KK hk
    try simp only [List.getElem_toArray, List.getElem_cons_succ, List.getElem_cons_zero, Act.put, List.setIfInBounds_toArray, List.set_cons_succ, List.set_cons_zero]
    refine tkH 8 (v := ?v8) rfl (by kernel_rfl) (fun _ _ _ h => h) (Or.inl ⟨by rfl, ?hy8⟩) hHeld ?rest8
    case hy8 => (intro w hSw; clear hSw; go_simp; try with_reducible rfl)
    try simp only [List.getElem_toArray, List.getElem_cons_succ, List.getElem_cons_zero, Act.put, List.setIfInBounds_toArray, List.set_cons_succ, List.set_cons_zero]
    refine wpAnyH_done (by kernel_rfl) ?_ _
    go_wp2_with fail
    have hbw : w.heap.size ≤ B := by omega
    refine bodyPost_ret (w := u) (v := .tuple #[.slice xa S3.L.length xk, .agg (mbc S3.c), .slice xb S3.t.length xj]) ?_ rfl ⟨⟨xa, xk, xb, xj, rfl, sl.imp id (fun h => h.mono hbw), sg.li.mono hbw⟩, hB⟩
    exact ret_tct rfl rfl hn Try.underlying29 rfl sizeCt rfl rfl
  · have g1 : ¬ (1 : Int) < (p.n 34 : Int) := by omega
    have hS3 : Hid (stepO m o (stepO m o (Os.mk L c []) (kN p)) (kR p) = S3) := by
      have := hS3.out
      rw [offO, firstO, if_neg h1] at this
      exact this
    obtain ⟨s0, hs0⟩ : ∃ s0, Os.mk L c [] = s0 := ⟨_, rfl⟩
    rw [hs0] at hS hS3
    have hc1 : ∀ i, s0.c i < 4294967296 := by rw [← hs0]; exact hc
    have hle : s0.L.length ≤ L.length + 1 := by rw [← hs0]; show L.length ≤ _; omega
    have hlt : s0.t.length ≤ 1 := by rw [← hs0]; simp
    clear hs0
    have hl1 : (s0.L.length + 1) * 352 ≤ 140737488355328 := by omega
    have ht1 : s0.t.length ≤ 10 := by omega
    obtain ⟨sm, sp, so, sr, ⟨xa, xk, xb, xj, sk, sl, sg⟩, s1, s2, s3, sB⟩ := hS
    have c1 := sp.cell 0 _ (pk_get0 p)
    have e1 := sp.cell 34 _ (pk_get34 p)
    have hfl := p.lt 0
    have pp := roffer_ok s0 (kN p) B m o w00 xa xb xk xj hc1 hl1 ht1 _ (h00.trans (sB.mono h00.size)) sl sg s3
    have hc2 := step_lt m o s0 (kN p) hc1
    have hle1 := step_len m o s0 (kN p)
    have hlt1 := step_tlen m o s0 (kN p)
    obtain ⟨q1, hq1⟩ : ∃ q, Hid (stepO m o s0 (kN p) = q) := ⟨_, rfl⟩
    rw [hq1.out] at pp hc2 hle1 hlt1 hS3
    clear hq1
    go_wp2_with (first | refine load_blk rfl 148 _ rfl sk rfl Try.underlying148 rfl sizeSt ?_ | refine load_blk rfl 28 _ rfl sm rfl Try.underlying28 rfl sizeMb ?_ | refine load_blk rfl 29 _ rfl so rfl Try.underlying29 rfl sizeCt ?_ | refine load_part rfl 41 _ rfl (o := 35) sp rfl (frv p.f0) (part_f0 p) Try.underlying41 rfl sizeFr ?_ | refine build_kt3 rfl _ _ _ rfl (p.n 0 : Int) (p.n 34) p.f0 (p.lt 34) rfl rfl rfl ?_)
    refine pp.mono ?_
    rintro r y1 ⟨⟨ya, yk, yb, yj, rfl, yl, yg⟩, hb⟩
    clear pp c1 e1 sl sg hfl
    replace sm := sm.under hb (by omega)
    replace sp := sp.under hb (by omega)
    replace so := so.under hb (by omega)
    replace sr := sr.under hb (by omega)
    replace sk := sk.under hb (by omega)
    replace sB := sB.trans (hb.mono (by omega))
    replace s3 := Nat.le_trans s3 hb.size
    clear hb
    go_upto_region 5 with (refine store_part rfl 148 _ _ rfl (off := 0) (cells := stc (.slice ya q1.L.length yk) q1.c (.slice yb q1.t.length yj)) sk rfl rfl sizeSt (by rw [stc_size, stc_size]; omega) (stc_one _ _ _ _ _ _ _) ?_; intro v1 ck kk'; rw [hpa _ _ (by rw [stc_size, stc_size])] at ck)
    try simp only [Act.put]
    replace sl : Li Kt.vals 0 ya q1.L w00 ∨ Li Kt.vals B ya q1.L v1 := yl.imp id (fun h => h.kp kk' (by simp; omega))
    have hS : RfS w.heap.size K B w w00 m o p q1 v1 := ⟨sm.kp1 kk' (by omega), sp.kp1 kk' (by omega), so.kp1 kk' (by omega), sr.kp1 kk' (by omega), ⟨ya, yk, yb, yj, ck, sl, yg.kp kk' (by simp; omega)⟩, s1, s2, Nat.le_trans s3 kk'.size, sB.trans (kk'.below1 (by omega) sB.size)⟩
    clear sm sp so sr ck sl yg yl kk' sk s1 s2 s3 sB
    have hl2 : (q1.L.length + 1) * 352 ≤ 140737488355328 := by omega
    have ht2 : q1.t.length ≤ 10 := by omega
    obtain ⟨sm, sp, so, sr, ⟨xa, xk, xb, xj, sk, sl, sg⟩, s1, s2, s3, sB⟩ := hS
    have c2 := sp.cell 107 _ (pk_get107 p)
    have e2 := sp.cell 108 _ (pk_get108 p)
    have hfl := p.lt 107
    have pp := roffer_ok q1 (kR p) B m o w00 xa xb xk xj hc2 hl2 ht2 _ (h00.trans (sB.mono h00.size)) sl sg s3
    have hc3 := step_lt m o q1 (kR p) hc2
    have hle2 := step_len m o q1 (kR p)
    have hlt2 := step_tlen m o q1 (kR p)
    obtain ⟨q2, hq2⟩ : ∃ q, Hid (stepO m o q1 (kR p) = q) := ⟨_, rfl⟩
    rw [hq2.out] at pp hc3 hle2 hlt2 hS3
    clear hq2
    go_wp2_with (first | refine load_blk rfl 148 _ rfl sk rfl Try.underlying148 rfl sizeSt ?_ | refine load_blk rfl 28 _ rfl sm rfl Try.underlying28 rfl sizeMb ?_ | refine load_blk rfl 29 _ rfl so rfl Try.underlying29 rfl sizeCt ?_ | refine load_part rfl 41 _ rfl (o := 109) sp rfl (frv p.f2) (part_f2 p) Try.underlying41 rfl sizeFr ?_ | refine build_kt3 rfl _ _ _ rfl (p.n 107 : Int) (p.n 108) p.f2 (p.lt 108) rfl rfl rfl ?_)
    refine pp.mono ?_
    rintro r y2 ⟨⟨ya, yk, yb, yj, rfl, yl, yg⟩, hb⟩
    clear pp c2 e2 sl sg hfl
    replace sm := sm.under hb (by omega)
    replace sp := sp.under hb (by omega)
    replace so := so.under hb (by omega)
    replace sr := sr.under hb (by omega)
    replace sk := sk.under hb (by omega)
    replace sB := sB.trans (hb.mono (by omega))
    replace s3 := Nat.le_trans s3 hb.size
    clear hb
    go_upto_region 6 with (refine store_part rfl 148 _ _ rfl (off := 0) (cells := stc (.slice ya q2.L.length yk) q2.c (.slice yb q2.t.length yj)) sk rfl rfl sizeSt (by rw [stc_size, stc_size]; omega) (stc_one _ _ _ _ _ _ _) ?_; intro v2 ck kk'; rw [hpa _ _ (by rw [stc_size, stc_size])] at ck)
    try simp only [Act.put]
    replace sl : Li Kt.vals 0 ya q2.L w00 ∨ Li Kt.vals B ya q2.L v2 := yl.imp id (fun h => h.kp kk' (by simp; omega))
    have hS : RfS w.heap.size K B w w00 m o p q2 v2 := ⟨sm.kp1 kk' (by omega), sp.kp1 kk' (by omega), so.kp1 kk' (by omega), sr.kp1 kk' (by omega), ⟨ya, yk, yb, yj, ck, sl, yg.kp kk' (by simp; omega)⟩, s1, s2, Nat.le_trans s3 kk'.size, sB.trans (kk'.below1 (by omega) sB.size)⟩
    clear sm sp so sr ck sl yg yl kk' sk s1 s2 s3 sB
    obtain rfl : S3 = q2 := hS3.out.symm
    obtain ⟨sm, sp, so, res, ⟨xa, xk, xb, xj, sk, sl, sg⟩, s1, s2, s3, hB⟩ := hS
    clear sm sp so hS3
    replace hB := hB.drew
    replace res := res.drew
    replace sl : Li Kt.vals 0 xa S3.L w00 ∨ Li Kt.vals B xa S3.L (v2.drew) := sl.imp id (fun h => h.below (Below.refl _ _).drew)
    replace sg : Lg Kt.vals 38 64 B xb xj S3.t (v2.drew) := sg.below (Below.refl _ _).drew
    refine wp_region_held_drew (S := fun w' => Blk K (stc (.slice xa S3.L.length xk) S3.c (.slice xb S3.t.length xj)) 148 w') (by kernel_rfl) sk.drew (fun hHeld => ?_)
    refine tkH 0 (v := ?v9) rfl (by kernel_rfl) (fun _ _ _ h => h) (Or.inl ⟨by rfl, ?hy9⟩) hHeld ?rest9
    case hy9 => (intro w hSw; clear hSw; go_simp; try with_reducible rfl)
    try simp only [List.getElem_toArray, List.getElem_cons_succ, List.getElem_cons_zero, Act.put, List.setIfInBounds_toArray, List.set_cons_succ, List.set_cons_zero]
    refine tkH 1 (v := ?v10) rfl (by kernel_rfl) (fun _ _ _ h => h) (Or.inl ⟨by rfl, ?hy10⟩) hHeld ?rest10
    case hy10 => (intro w hSw; have kc : w.cell? ⟨K, 0, none⟩ = some (.slice xa S3.L.length xk) := hSw.cell 0 _ rfl; clear hSw; go_simp; try with_reducible rfl)
    try simp only [List.getElem_toArray, List.getElem_cons_succ, List.getElem_cons_zero, Act.put, List.setIfInBounds_toArray, List.set_cons_succ, List.set_cons_zero]
    refine tkH 2 (v := ?v11) rfl (by kernel_rfl) (fun _ _ _ h => h) (Or.inl ⟨by rfl, ?hy11⟩) hHeld ?rest11
    case hy11 => (intro w hSw; clear hSw; go_simp; try with_reducible rfl)
    try simp only [List.getElem_toArray, List.getElem_cons_succ, List.getElem_cons_zero, Act.put, List.setIfInBounds_toArray, List.set_cons_succ, List.set_cons_zero]
    refine' tkH 3 (v := _) rfl (by kernel_rfl) (fun _ _ _ h => h) (yieldsIf_load_mid (by rfl) _ _ rfl K 1 rfl (row8 S3.c) _ ?hS12 Try.underlying29 rfl sizeCt) hHeld ?rest12
    case hS12 => exact fun w h => h.range 1 _ (stc_c _ _ _)
    try simp only [List.getElem_toArray, List.getElem_cons_succ, List.getElem_cons_zero, Act.put, List.setIfInBounds_toArray, List.set_cons_succ, List.set_cons_zero]
    refine tkH 4 (v := ?v13) rfl (by kernel_rfl) (fun _ _ _ h => h) (Or.inl ⟨by rfl, ?hy13⟩) hHeld ?rest13
    case hy13 => (intro w hSw; clear hSw; go_simp; try with_reducible rfl)
    try simp only [List.getElem_toArray, List.getElem_cons_succ, List.getElem_cons_zero, Act.put, List.setIfInBounds_toArray, List.set_cons_succ, List.set_cons_zero]
    refine tkH 5 (v := ?v14) rfl (by kernel_rfl) (fun _ _ _ h => h) (Or.inl ⟨by rfl, ?hy14⟩) hHeld ?rest14
    case hy14 => (intro w hSw; have kc : w.cell? ⟨K, 9, none⟩ = some (.slice xb S3.t.length xj) := hSw.cell 9 _ rfl; clear hSw; go_simp; try with_reducible rfl)
    try simp only [List.getElem_toArray, List.getElem_cons_succ, List.getElem_cons_zero, Act.put, List.setIfInBounds_toArray, List.set_cons_succ, List.set_cons_zero]
    refine tkH 6 (v := ?v15) rfl (by kernel_rfl) (fun _ _ _ h => h) (Or.inl ⟨by rfl, ?hy15⟩) hHeld ?rest15
    case hy15 => (intro w hSw; clear hSw; go_simp; try with_reducible rfl)
    try simp only [List.getElem_toArray, List.getElem_cons_succ, List.getElem_cons_zero, Act.put, List.setIfInBounds_toArray, List.set_cons_succ, List.set_cons_zero]
    refine wpAnyH_ready (rs := [7]) (by kernel_rfl) (by simp) ?_
    refine AllReadyH.cons rfl (fun KK hK => ?_) (AllReadyH.nil)
    rw [if_pos (by rfl)]
    refine wp_store_all 29 _ _ rfl (cells := mbc S3.c) res rfl rfl sizeCt rfl (mbc_one _) ?_
    intro u hn hk
    replace sl : Li Kt.vals 0 xa S3.L w00 ∨ Li Kt.vals B xa S3.L u := sl.imp id (fun h => h.kp hk (by simp; omega))
    replace sg := sg.kp hk (by simp; omega)
    replace hB := hB.trans (hk.below1 (by omega) hB.size)
    refine hK.out _ _ (hHeld.kp1 hk (by omega)) (fun hHeld => ?_)
    clear hK KK hk
    try simp only [List.getElem_toArray, List.getElem_cons_succ, List.getElem_cons_zero, Act.put, List.setIfInBounds_toArray, List.set_cons_succ, List.set_cons_zero]
    refine tkH 8 (v := ?v16) rfl (by kernel_rfl) (fun _ _ _ h => h) (Or.inl ⟨by rfl, ?hy16⟩) hHeld ?rest16
    case hy16 => (intro w hSw; clear hSw; go_simp; try with_reducible rfl)
    try simp only [List.getElem_toArray, List.getElem_cons_succ, List.getElem_cons_zero, Act.put, List.setIfInBounds_toArray, List.set_cons_succ, List.set_cons_zero]
    refine wpAnyH_done (by kernel_rfl) ?_ _
    go_wp2_with fail
    have hbw : w.heap.size ≤ B := by omega
    refine bodyPost_ret (w := u) (v := .tuple #[.slice xa S3.L.length xk, .agg (mbc S3.c), .slice xb S3.t.length xj]) ?_ rfl ⟨⟨xa, xk, xb, xj, rfl, sl.imp id (fun h => h.mono hbw), sg.li.mono hbw⟩, hB⟩
    exact ret_tct rfl rfl hn Try.underlying29 rfl sizeCt rfl rfl

theorem roffers_ok (L : List Kt) (la : Option Addr) (lc : Nat) (c m o : Nat → Nat) (p : Pk) (hc : ∀ i, c i < 4294967296) (hl : L.length * 352 ≤ 140737488351232) (w : World) (lS : Li Kt.vals 0 la L w) :
    Calls Try.prog 87 #[.slice la L.length lc, .agg (mbc c), .agg (mbc m), .agg (pkc p), .agg (mbc o)] w fun e w' => Offered (offO m o p (Os.mk L c [])) e w' ∧ Below w.heap.size w w' := by
  refine (roffersV_ok L la lc c m o p hc hl w w (Below.refl _ _) lS).mono fun e w' ⟨⟨a, k, b, j, h1, h2, h3⟩, hb⟩ => ⟨⟨a, k, b, j, h1, ?_, h3.mono (Nat.zero_le _)⟩, hb⟩
  rcases h2 with h | h
  · exact h.below hb
  · exact h.mono (Nat.zero_le _)

end Go.Proofs.Ythgmecgknhphmaa
