/-
  Calls whose answers the document fixes: the law's own sample is true (congresslaw13.fixed); ticks and packets of a core with its lists where they lie.
  A core's numbers are such as its types hold.
-/
import Derived.Test.YthgmecgknhphmaaCeT
import Derived.Test.YthgmecgknhphmaaCeR
import Derived.Test.YthgmecgknhphmaaCeP
import Derived.Test.YthgmecgknhphmaaCeS
import Derived.Test.YthgmecgknhphmaaCeQ
namespace Go.Proofs.Ythgmecgknhphmaa
set_option maxRecDepth 10000
open Go.RowKit Go.Sort
set_option linter.unusedVariables false

def px : Pk := (Pk.mk (fun i => if i = 0 ∨ i = 1 ∨ i = 3 ∨ i = 4 ∨ i = 22 ∨ i = 23 then 1 else 0) (fun i => by split <;> omega) false noFr noFr noFr)
theorem built_px : Try.prog.built 50 [(0, .int .u32 1), (1, .int .u32 1), (2, .agg (Idn.mk 0 1 1).arr), (5, .agg (Idn.mk 0 1 1).arr)] = some (pkc px) := by kernel_rfl
def x0 : Co := startC 0 1 3
def x1 : Sg := tickS x0 [] noFr
def x2 : Sg := tickS x1.c x1.L noFr
def x3 : Sg := recvS x2.c x2.L px
def x4 : Sg := tickS x3.c x3.L noFr
theorem f1 : startB 0 1 3 = true := by decide
theorem f2 : startB 8 1 3 = false := by decide
theorem f3 : tickD x0 [] = true := by kernel_rfl
theorem f4 : x1.t.length = 1 := by kernel_rfl
theorem f5 : x1.t.map (fun h => h.k.rd) = [1] := by kernel_rfl
theorem f6 : tickD x1.c x1.L = true := by kernel_rfl
theorem f7 : heedB x2.c px = true := by kernel_rfl
theorem f8 : tickD x3.c x3.L = false := by kernel_rfl
theorem f9 : gathB x4.c = true := by kernel_rfl
theorem f10 : gathB x2.c = false := by kernel_rfl
theorem f11 : x4.c.pr = Idn.mk 1 0 1 := by kernel_rfl
theorem f12 : (packW x2.c x2.L).rd = 2 := by kernel_rfl
theorem x0_fit : x0.fit := fit_start (by omega) 3 f1
theorem x0_self : x0.self = ((0 : Nat) : Int) := rfl
theorem x1_fit : x1.c.fit := fit_tick x0_fit 0 (by omega) x0_self [] noFr
theorem x1_self : x1.c.self = ((0 : Nat) : Int) := (tickS_self x0 [] noFr).1.trans x0_self
theorem x2_fit : x2.c.fit := fit_tick x1_fit 0 (by omega) x1_self x1.L noFr
theorem x2_self : x2.c.self = ((0 : Nat) : Int) := (tickS_self x1.c x1.L noFr).1.trans x1_self
theorem x3_fit : x3.c.fit := fit_recv x2_fit x2.L px
theorem x3_self : x3.c.self = ((0 : Nat) : Int) := (recvS_self x2.c x2.L px).1.trans x2_self
theorem x1_len : x1.L.length ≤ 1 := (tickS_len x0 [] noFr).1
theorem x2_len : x2.L.length ≤ 2 := by have := (tickS_len x1.c x1.L noFr).1; have := x1_len; show (tickS x1.c x1.L noFr).L.length ≤ 2; omega
theorem x3_len : x3.L.length ≤ 5 := by have := (recvS_len x2.c x2.L px).1; have := x2_len; show (recvS x2.c x2.L px).L.length ≤ 5; omega
theorem send_simS {s u : Sg} (h : Sg.sim s u) (f : Nat → En) : Sg.sim (sendS s f) (sendS u f) ∧ sendB s.c = sendB u.c := by
  obtain ⟨c, L, t⟩ := s
  obtain ⟨d, L', t'⟩ := u
  obtain ⟨h1, h2, h3⟩ := h
  have g2 : L = L' := h2
  have g3 : t = t' := h3
  clear h2 h3
  subst g2
  subst g3
  exact send_sim h1 L t f
theorem goOn_simS {s u : Sg} (h : Sg.sim s u) : Sg.sim (goOnS s) (goOnS u) := by
  obtain ⟨c, L, t⟩ := s
  obtain ⟨d, L', t'⟩ := u
  obtain ⟨h1, h2, h3⟩ := h
  have g2 : L = L' := h2
  have g3 : t = t' := h3
  clear h2 h3
  subst g2
  subst g3
  exact goOn_sim h1 L t
/- A tick, a packet, of a core with its lists where they lie. -/
theorem ctick_kp (c : Co) (L : List Kt) (f : Nat → En) (s : Nat) (hs : s < 8) (hcs : c.self = (s : Int)) (kf : c.fit) (a : Option Addr) (k : Nat) (hl : L.length * 352 ≤ 140737488351232) (w : World) (lS : Li Kt.vals 0 a L w) :
    Calls Try.prog 11 #[.agg (coc (c.kp a L.length k)), .agg (frc f)] w fun e w' => Did (tickS c L f) (tickD c L) w.heap.size e w' ∧ Below w.heap.size w w' := by
  have e1 : Sg.sim (tickS (c.kp a L.length k) L f) (tickS c L f) ∧ tickD (c.kp a L.length k) L = tickD c L := by
    have e0 : tick0 (c.kp a L.length k) = (tick0 c).kp a L.length k := propose_kp (c.wBeat (tickB c.beat)) _ a L.length k
    have h1 : Sg.sim (goOnS ⟨(tick0 c).kp a L.length k, L, []⟩) (goOnS ⟨tick0 c, L, []⟩) := goOn_sim (c := (tick0 c).kp a L.length k) (d := tick0 c) (fun _ _ _ => rfl) L []
    unfold tickS tickD tick1
    rw [e0]
    generalize goOnS ⟨(tick0 c).kp a L.length k, L, []⟩ = s1 at h1 ⊢
    generalize goOnS ⟨tick0 c, L, []⟩ = s2 at h1 ⊢
    exact send_simS h1 f
  refine (ctick_ok (c.kp a L.length k) L f s hs hcs kf.beat.now kf.epoch kf.count rfl hl w lS).mono fun e w' ⟨⟨a2, k2, ta, tk, h1, h2, h3⟩, hb⟩ => ⟨?_, hb⟩
  obtain ⟨⟨g1, g2, g3⟩, g4⟩ := e1
  rw [g1, g2, g3, g4] at h1
  rw [g2] at h2
  rw [g3] at h3
  exact ⟨a2, k2, ta, tk, h1, h2, h3⟩
theorem crecv_kp (c : Co) (L : List Kt) (p : Pk) (s : Nat) (hs : s < 8) (hcs : c.self = (s : Int)) (kf : c.fit) (a : Option Addr) (k : Nat) (hl : L.length * 352 ≤ 140737488351232) (w : World) (lS : Li Kt.vals 0 a L w) :
    Calls Try.prog 18 #[.agg (coc (c.kp a L.length k)), .agg (pkc p)] w fun e w' => Did (recvS c L p) (heedB c p) w.heap.size e w' ∧ Below w.heap.size w w' := by
  have e1 : Sg.sim (recvS (c.kp a L.length k) L p) (recvS c L p) := by
    have e0 : recv0 (c.kp a L.length k) p = (recv0 c p).kp a L.length k := adopC_kp (hearC c p) p a L.length k
    have h0 : Sg.sim (offS ⟨(recv0 c p).kp a L.length k, L, []⟩ p) (offS ⟨recv0 c p, L, []⟩ p) := off_sim (c := (recv0 c p).kp a L.length k) (d := recv0 c p) (fun _ _ _ => rfl) L [] p
    have h1 : Sg.sim (recvY (c.kp a L.length k) L p) (recvY c L p) := by
      unfold recvY
      rw [e0]
      generalize offS ⟨(recv0 c p).kp a L.length k, L, []⟩ p = s1 at h0 ⊢
      generalize offS ⟨recv0 c p, L, []⟩ p = s2 at h0 ⊢
      exact goOn_simS h0
    unfold recvS
    have e2 : heedB (c.kp a L.length k) p = heedB c p := rfl
    rw [e2]
    cases heedB c p
    · exact ⟨fun _ _ _ => rfl, rfl, rfl⟩
    · exact h1
  refine (crecv_ok (c.kp a L.length k) L p s hs hcs kf.count rfl hl w lS).mono fun e w' ⟨⟨a2, k2, ta, tk, h1, h2, h3⟩, hb⟩ => ⟨?_, hb⟩
  obtain ⟨g1, g2, g3⟩ := e1
  rw [g1, g2, g3] at h1
  rw [g2] at h2
  rw [g3] at h3
  exact ⟨a2, k2, ta, tk, h1, h2, h3⟩
theorem cpack_kp (c : Co) (L : List Kt) (s : Nat) (hs : s < 8) (hcs : c.self = (s : Int)) (kf : c.fit) (a : Option Addr) (k : Nat) (hl : L.length * 352 ≤ 140737488355328) (w : World) (lS : Li Kt.vals 0 a L w) :
    Calls Try.prog 15 #[.agg (coc (c.kp a L.length k))] w fun e w' => e = .returned (.agg (pwc (packW c L))) ∧ Below w.heap.size w w' :=
  packet_ok (c.kp a L.length k) L s hs hcs kf.beat.now kf.count rfl hl w lS

set_option maxHeartbeats 8000000 in
theorem fixed_ok (w : World) : Calls Try.prog 9 #[] w fun e w' => e = .returned (.bool true) ∧ Below w.heap.size w w' := by
  have pS := start_ok 0 1 3
  have pT := start_ok 8 1 3
  rw [f1] at pS
  rw [f2] at pT
  have e8 : startC 8 1 3 = Co.zero := by rw [startC, f2]; rfl
  rw [e8] at pT
  have e0 : startC 0 1 3 = x0 := rfl
  rw [e0] at pS
  clear e8 e0
  go_enter Try.func9, Try.ntmps9
  go_wp2_with fail
  refine (pS _).mono ?_
  rintro r w0 ⟨rfl, hB⟩
  clear pS
  have h0 := hB.size
  have hb := below_box w0 (.cells (coc x0) 35)
  have v0 := blk_new w0 (coc x0) 35
  go_upto_region 2 with (first | refine alloc_zero zeroCo rfl rfl ?_ | refine store_new rfl 35 _ _ rfl (cells := (coc x0)) rfl rfl sizeCo rfl (coc_one _) ?_)
  try simp only [Act.put, List.setIfInBounds_toArray, List.set_cons_zero, List.set_cons_succ]
  generalize w0.alloc (Obj.cells (coc x0) 35) = V0 at v0 hb ⊢
  replace hB := hB.trans (hb.mono hB.size)
  clear hb 
  generalize w0.heap.size = y0 at v0 ⊢
  go_wp2_with fail
  refine (pT _).mono ?_
  rintro r w9 ⟨rfl, hb⟩
  replace v0 := v0.below hb
  replace hB := hB.trans (hb.mono hB.size)
  clear hb pT
  have hb := below_box w9 (.cells (coc Co.zero) 35)
  have v9 := blk_new w9 (coc Co.zero) 35
  go_upto_region 3 with (first | refine alloc_zero zeroCo rfl rfl ?_ | refine store_new rfl 35 _ _ rfl (cells := (coc Co.zero)) rfl rfl sizeCo rfl (coc_one _) ?_)
  try simp only [Act.put, List.setIfInBounds_toArray, List.set_cons_zero, List.set_cons_succ]
  generalize w9.alloc (Obj.cells (coc Co.zero) 35) = V9 at v9 hb ⊢
  replace v0 := v0.below hb
  replace hB := hB.trans (hb.mono hB.size)
  clear hb 
  generalize w9.heap.size = y9 at v9 ⊢
  clear v9
  go_wp2_with (first | refine load_blk rfl 35 _ rfl v0 rfl Try.underlying35 rfl sizeCo ?_ | (refine build_as rfl 41 #[] rfl (C := frc noFr) ?_ ?_; kernel_rfl))
  refine (ctick_ok x0 [] noFr 0 (by omega) x0_self x0_fit.beat.now x0_fit.epoch x0_fit.count rfl (by simp) _ (Li.nil _ _ _)).mono ?_
  rintro r w1 ⟨⟨a1, k1, t1, j1, rfl, l1, m1⟩, hb⟩
  replace l1 : Li Kt.vals 0 a1 x1.L w1 := l1.mono (Nat.zero_le _)
  replace m1 : Li Hp.vals 0 t1 x1.t w1 := m1.mono (Nat.zero_le _)
  replace hB := hB.trans (hb.mono hB.size)
  clear hb v0
  have hx1 : tickS x0 [] noFr = x1 := rfl
  rw [hx1, f3]
  clear hx1
  obtain ⟨d1, hd1⟩ : ∃ d, Hid (x1.c.kp a1 x1.L.length k1 = d) := ⟨_, rfl⟩
  rw [hd1.out]
  have hb := below_box w1 (.cells (coc d1) 35)
  have v1 := blk_new w1 (coc d1) 35
  go_upto_region 4 with (first | refine alloc_zero zeroCo rfl rfl ?_ | refine store_new rfl 35 _ _ rfl (cells := (coc d1)) rfl rfl sizeCo rfl (coc_one _) ?_)
  try simp only [Act.put, List.setIfInBounds_toArray, List.set_cons_zero, List.set_cons_succ]
  generalize w1.alloc (Obj.cells (coc d1) 35) = V1 at v1 hb ⊢
  replace l1 := l1.below hb
  replace m1 := m1.below hb
  replace hB := hB.trans (hb.mono hB.size)
  clear hb 
  generalize w1.heap.size = y1 at v1 ⊢
  go_wp2_with (first | refine load_blk rfl 35 _ rfl v1 rfl Try.underlying35 rfl sizeCo ?_ | (refine build_as rfl 41 #[] rfl (C := frc noFr) ?_ ?_; kernel_rfl))
  have p1 := fun u h => ctick_kp x1.c x1.L noFr 0 (by omega) x1_self x1_fit a1 k1 (by have := x1_len; omega) u h
  rw [hd1.out] at p1
  refine (p1 _ l1).mono ?_
  rintro r w2 ⟨⟨a2, k2, t2, j2, rfl, l2, m2⟩, hb⟩
  replace l2 : Li Kt.vals 0 a2 x2.L w2 := l2.mono (Nat.zero_le _)
  replace m1 := m1.below hb
  replace hB := hB.trans (hb.mono hB.size)
  clear hb v1 p1 l1 m2
  have hx2 : tickS x1.c x1.L noFr = x2 := rfl
  rw [hx2, f6]
  clear hx2
  obtain ⟨d2, hd2⟩ : ∃ d, Hid (x2.c.kp a2 x2.L.length k2 = d) := ⟨_, rfl⟩
  rw [hd2.out]
  have hb := below_box w2 (.cells (coc d2) 35)
  have v2 := blk_new w2 (coc d2) 35
  go_upto_region 5 with (first | refine alloc_zero zeroCo rfl rfl ?_ | refine store_new rfl 35 _ _ rfl (cells := (coc d2)) rfl rfl sizeCo rfl (coc_one _) ?_)
  try simp only [Act.put, List.setIfInBounds_toArray, List.set_cons_zero, List.set_cons_succ]
  generalize w2.alloc (Obj.cells (coc d2) 35) = V2 at v2 hb ⊢
  replace l2 := l2.below hb
  replace m1 := m1.below hb
  replace hB := hB.trans (hb.mono hB.size)
  clear hb 
  generalize w2.heap.size = y2 at v2 ⊢
  have p2 := fun u h => crecv_kp x2.c x2.L px 0 (by omega) x2_self x2_fit a2 k2 (by have := x2_len; omega) u h
  have p2' := fun u h => cpack_kp x2.c x2.L 0 (by omega) x2_self x2_fit a2 k2 (by have := x2_len; omega) u h
  have p2'' := gathers_ok (x2.c.kp a2 x2.L.length k2)
  have g2 : gathB (x2.c.kp a2 x2.L.length k2) = false := f10
  rw [g2] at p2''
  rw [hd2.out] at p2 p2' p2''
  clear g2
  go_wp2_with (first | refine load_blk rfl 35 _ rfl v2 rfl Try.underlying35 rfl sizeCo ?_ | (refine build_as rfl 27 #[(1, .const (.int .u32 1)), (2, .const (.int .u32 1))] rfl (C := (Idn.mk 0 1 1).arr) ?_ ?_; kernel_rfl) | (refine build_as rfl 50 #[(0, .const (.int .u32 1)), (1, .const (.int .u32 1)), (2, .tmp 41), (5, .tmp 42)] rfl (C := pkc px) ?_ ?_; kernel_rfl))
  refine (p2 _ l2).mono ?_
  rintro r w3 ⟨⟨a3, k3, t3, j3, rfl, l3, m3⟩, hb⟩
  replace l3 : Li Kt.vals 0 a3 x3.L w3 := l3.mono (Nat.zero_le _)
  replace m1 := m1.below hb
  replace l2 := l2.below hb
  replace v2 := v2.below hb
  replace hB := hB.trans (hb.mono hB.size)
  clear hb p2 m3
  have hx3 : recvS x2.c x2.L px = x3 := rfl
  rw [hx3, f7]
  clear hx3
  obtain ⟨d3, hd3⟩ : ∃ d, Hid (x3.c.kp a3 x3.L.length k3 = d) := ⟨_, rfl⟩
  rw [hd3.out]
  have hb := below_box w3 (.cells (coc d3) 35)
  have v3 := blk_new w3 (coc d3) 35
  go_upto_region 6 with (first | refine alloc_zero zeroCo rfl rfl ?_ | refine store_new rfl 35 _ _ rfl (cells := (coc d3)) rfl rfl sizeCo rfl (coc_one _) ?_)
  try simp only [Act.put, List.setIfInBounds_toArray, List.set_cons_zero, List.set_cons_succ]
  generalize w3.alloc (Obj.cells (coc d3) 35) = V3 at v3 hb ⊢
  replace l3 := l3.below hb
  replace m1 := m1.below hb
  replace l2 := l2.below hb
  replace v2 := v2.below hb
  replace hB := hB.trans (hb.mono hB.size)
  clear hb 
  generalize w3.heap.size = y3 at v3 ⊢
  have p3 := fun u h => ctick_kp x3.c x3.L noFr 0 (by omega) x3_self x3_fit a3 k3 (by have := x3_len; omega) u h
  rw [hd3.out] at p3
  go_wp2_with (first | refine load_blk rfl 35 _ rfl v3 rfl Try.underlying35 rfl sizeCo ?_ | (refine build_as rfl 41 #[] rfl (C := frc noFr) ?_ ?_; kernel_rfl))
  refine (p3 _ l3).mono ?_
  rintro r w4 ⟨⟨a4, k4, t4, j4, rfl, l4, m4⟩, hb⟩
  replace m1 := m1.below hb
  replace l2 := l2.below hb
  replace v2 := v2.below hb
  replace hB := hB.trans (hb.mono hB.size)
  clear hb p3 v3 l3 l4 m4
  have hx4 : tickS x3.c x3.L noFr = x4 := rfl
  rw [hx4, f8]
  clear hx4
  have p4 := gathers_ok (x4.c.kp a4 x4.L.length k4)
  have g4 : gathB (x4.c.kp a4 x4.L.length k4) = true := f9
  rw [g4] at p4
  have e4 : Hid ((x4.c.kp a4 x4.L.length k4).pr = Idn.mk 1 0 1) := f11
  clear g4
  obtain ⟨d4, hd4⟩ : ∃ d, Hid (x4.c.kp a4 x4.L.length k4 = d) := ⟨_, rfl⟩
  rw [hd4.out]
  rw [hd4.out] at p4 e4
  have hb := below_box w4 (.cells (coc d4) 35)
  have v4 := blk_new w4 (coc d4) 35
  go_upto_region 7 with (first | refine alloc_zero zeroCo rfl rfl ?_ | refine store_new rfl 35 _ _ rfl (cells := (coc d4)) rfl rfl sizeCo rfl (coc_one _) ?_)
  try simp only [Act.put, List.setIfInBounds_toArray, List.set_cons_zero, List.set_cons_succ]
  generalize w4.alloc (Obj.cells (coc d4) 35) = V4 at v4 hb ⊢
  replace m1 := m1.below hb
  replace l2 := l2.below hb
  replace v2 := v2.below hb
  replace hB := hB.trans (hb.mono hB.size)
  clear hb 
  generalize w4.heap.size = y4 at v4 ⊢
  clear hd1 hd2 hd3 hd4
  rw [f4]
  have hx : ∃ h : Hp, x1.t[0]? = some h ∧ h.k.rd = 1 := by
    have e := f5
    cases hq : x1.t with
    | nil => rw [hq] at e; simp at e
    | cons h l => rw [hq] at e; simp at e; exact ⟨h, rfl, e.1⟩
  obtain ⟨h1, hx, hx1⟩ := hx
  obtain ⟨b, o, rfl, _, hbl, hr⟩ := m1.at Hp.vals_length 0 h1 hx
  have c1 : V4.cell? ⟨b, o + 2, none⟩ = some (.int .u32 1) := by
    have := hr 2 _ rfl
    rw [Nat.zero_mul, Nat.add_zero] at this
    rw [this, hx1]
    rfl
  have kI : ∀ w, (binOp .eql 27 (.agg d4.pr.vals.toArray) (.agg (Idn.mk 1 0 1).arr)).run Try.prog w = .ok (.bool true) w := eqlIdn _ _ true (by rw [e4.out]; exact Idn.same_self _)
  clear hr hx hx1 m1
  go_wp2_with (refine load_want rfl 35 _ rfl v4 rfl Try.underlying35 rfl sizeCo ?_)
  refine (p4 _).mono ?_
  rintro r w5 ⟨rfl, hb⟩
  replace l2 := l2.below hb
  replace v2 := v2.below hb
  replace v4 := v4.below hb
  replace hB := hB.trans (hb.mono hB.size)
  clear hb p4 c1
  go_wp2_with (refine load_want rfl 35 _ rfl v2 rfl Try.underlying35 rfl sizeCo ?_)
  refine (p2'' _).mono ?_
  rintro r w6 ⟨rfl, hb⟩
  replace l2 := l2.below hb
  replace v2 := v2.below hb
  replace v4 := v4.below hb
  replace hB := hB.trans (hb.mono hB.size)
  clear hb p2''
  go_wp2_with (first | refine load_wpart rfl 27 _ rfl (o := 40) v4 rfl d4.pr.vals d4.p_pr Try.underlying27 rfl sizeIdn ?_ | (refine build_want rfl 27 #[(0, .const (.int .u32 1)), (2, .const (.int .u32 1))] rfl (C := (Idn.mk 1 0 1).arr) ?_ ?_; kernel_rfl) | refine load_want rfl 35 _ rfl v2 rfl Try.underlying35 rfl sizeCo ?_)
  refine (p2' _ l2).mono ?_
  rintro r w7 ⟨rfl, hb⟩
  replace hB := hB.trans (hb.mono hB.size)
  clear hb p2' v2 v4 l2
  have hfl : ∀ w, (Instr.field 50 (.agg (pwc (packW x2.c x2.L))) 9).run Try.prog w = .ok (.int .u32 2) w := fun w => by
    have e := f12
    generalize packW x2.c x2.L = y at e
    have h : (Instr.field 50 (.agg (pwc y)) 9).run Try.prog w = .ok (.int .u32 (y.rd : Int)) w := by kernel_rfl
    rw [h, e]
    rfl
  go_wp2_with fail
  go_ret
  exact ⟨rfl, hB⟩

end Go.Proofs.Ythgmecgknhphmaa
