/-
  kept.Offer: what is kept, the counts, and which frames were taken, once a packet's frames were offered.
  Conditions: what is kept takes no more bytes than a list may.
-/
import Derived.Test.YthgmecgknhphmaaBase
import Derived.Test.YthgmecgknhphmaaKtG
namespace Go.Proofs.Ythgmecgknhphmaa
set_option maxRecDepth 10000
set_option linter.unusedSimpArgs false
open Go.RowKit Go.Sort
set_option linter.unusedVariables false

def kO (p : Pk) : Kt := ⟨(p.n 0 : Int), p.n 34 - 1, p.f1, by have := p.lt 34; omega⟩
def kN (p : Pk) : Kt := ⟨(p.n 0 : Int), p.n 34, p.f0, p.lt 34⟩
def kR (p : Pk) : Kt := ⟨(p.n 107 : Int), p.n 108, p.f2, p.lt 108⟩
def firstO (m o : Nat → Nat) (p : Pk) (s : Os) : Os := if 1 < p.n 34 then stepO m o s (kO p) else s
def offO (m o : Nat → Nat) (p : Pk) (s : Os) : Os := stepO m o (stepO m o (firstO m o p s) (kN p)) (kR p)
def OfferedB (s : Os) (B : Nat) (e : Ending) (w' : World) : Prop := ∃ a k b j, e = .returned (.tuple #[.slice a s.L.length k, .agg (mbc s.c), .slice b s.t.length j]) ∧ Li Kt.vals B a s.L w' ∧ Li Kt.vals B b s.t w'
def Offered (s : Os) (e : Ending) (w' : World) : Prop := ∃ a k b j, e = .returned (.tuple #[.slice a s.L.length k, .agg (mbc s.c), .slice b s.t.length j]) ∧ Li Kt.vals 0 a s.L w' ∧ Li Kt.vals 0 b s.t w'

theorem alloc_one {P : Program} {T : TypeId} {v : Value} (hz : (P.info? T).map (fun i => (i.zero, i.size)) = some (some v, 1)) (hv : v.cells = #[v]) {ops : Array Oper} {rest : List Oper} {o : Oper} {a : Act} {w : World} {Q : Exit → Act → World → Prop} (hgd : o.guard = none) (ho : o.op = .alloc T)
    (h : wpList P ops Q rest (a.put o.dst (.pointer (some ⟨w.heap.size, 0, none⟩))) (w.alloc (.cells #[v] T))) : wpList P ops Q (o :: rest) a w :=
  wpList_plain hgd fun _ hK => by
    have hz := (zero_of_info hz).1
    rw [← hv] at h
    have hk := hK _ _ h
    unfold Oper.wp execOp
    simp only [ho, Instr.alloc, Sem.run_bind, hz, Result.andThen_ok]
    exact hk
theorem zeroSl : (Try.prog.info? 30).map (fun i => (i.zero, i.size)) = some (some (.slice none 0 0), 1) := by kernel_rfl
theorem Li.keeps {a : Option Addr} {c : Nat} {B b : Nat} {L : List Kt} {w w' : World} (h : Li Kt.vals B a L w) (hg : Lg Kt.vals 38 64 B a c L w) (hk : Kp [b] w w') (hb : b ∉ blkOf a) : Li Kt.vals B a L w' :=
  h.kept hk (fun g o e hm => hb (by simp at hm; subst hm; rw [e]; simp [blkOf]))

set_option maxHeartbeats 8000000 in
theorem offer_new (L : List Kt) (la : Option Addr) (lc : Nat) (c m o : Nat → Nat) (p : Pk) (hc : ∀ i, c i < 4294967296) (hl : L.length * 352 ≤ 140737488351232) (w : World) (lS : Li Kt.vals 0 la L w) :
    Calls Try.prog 85 #[.slice la L.length lc, .agg (mbc c), .agg (mbc m), .agg (pkc p), .agg (mbc o)] w fun e w' => OfferedB (offO m o p (Os.mk L c [])) w.heap.size e w' ∧ Below w.heap.size w w' := by
  have hmf : ∀ (fn : Fn) (first cap : Array Value) (w : World), (Instr.makeFunc fn first cap).run Try.prog w = .ok (.func fn first cap) w := fun _ _ _ _ => rfl
  obtain ⟨a0, a1, a2, a3, a4, hB⟩ := five_blk (T0 := 29) (T1 := 28) (T2 := 50) (T3 := 29) (T4 := 29) (C0 := mbc c) (C1 := mbc m) (C2 := pkc p) (C3 := mbc o) (C4 := mbc noMb) (w := w) rfl
  obtain ⟨S3, hS3⟩ : ∃ S3, Hid (offO m o p (Os.mk L c []) = S3) := ⟨_, rfl⟩
  rw [hS3.out]
  go_enter Try.func85, Try.ntmps85
  go_upto_region 1 with (refine alloc_zero zeroCt rfl rfl ?_)
  try simp only [Act.put, List.setIfInBounds_toArray, List.set_cons_zero, List.set_cons_succ]
  try simp only [alloc_size]
  generalize ((((w.alloc (Obj.cells (mbc c) 29)).alloc (Obj.cells (mbc m) 28)).alloc (Obj.cells (pkc p) 50)).alloc (Obj.cells (mbc o) 29)).alloc (Obj.cells (mbc noMb) 29) = W at a0 a1 a2 a3 a4 hB ⊢
  go_wp2_with fail
  refine (clone_ok L la lc (by omega) W (lS.below hB)).mono ?_
  rintro r w1 ⟨⟨ad, cap, rfl, cl⟩, hb⟩
  have hW4 := a4.lt
  have hWw := hb.size
  replace a0 := a0.below hb
  replace a1 := a1.below hb
  replace a2 := a2.below hb
  replace a3 := a3.below hb
  replace a4 := a4.below hb
  replace hB := hB.trans (hb.mono hB.size)
  clear hb lS
  have b1 := blk_new w1 #[.slice none 0 0] 30
  have hb1 : Below w1.heap.size w1 (w1.alloc (.cells #[.slice none 0 0] 30)) := below_box w1 _
  go_upto_region 2 with (first | refine alloc_one zeroSl rfl rfl rfl ?_ | (refine store_one rfl 30 _ _ rfl (off := 0) (.slice ad L.length cap) b1 rfl rfl rfl rfl sizeSl (by simp) ?_; intro w2 b2 k2))
  try simp only [Act.put]
  have hL2 : ∀ A C U, A < w1.heap.size → Blk A C U w1 → Blk A C U w2 := fun A C U hA h => (h.below hb1).kp1 k2 (by omega)
  replace a0 := hL2 _ _ _ (by omega) a0
  replace a1 := hL2 _ _ _ (by omega) a1
  replace a2 := hL2 _ _ _ (by omega) a2
  replace a3 := hL2 _ _ _ (by omega) a3
  replace a4 := hL2 _ _ _ (by omega) a4
  have hkl : Li Kt.vals (w.heap.size + 1 + 1 + 1 + 1 + 1) ad L w2 := ((cl.below hb1).li.keeps (cl.below hb1) k2 (fun hm => absurd (cl.in _ hm).2 (Nat.lt_irrefl _))).mono (by omega)
  replace b2 : Blk w1.heap.size #[.slice ad L.length cap] 30 w2 := b2
  have hB2 := hB.trans (hb1.mono hB.size)
  replace hB := hB2.trans (k2.below1 hB.size hB2.size)
  have hs2 := b2.lt
  have hwK : w.heap.size + 1 + 1 + 1 + 1 < w1.heap.size := by omega
  clear b1 hb1 k2 hL2 cl hB2
  generalize w1.heap.size = K at *
  have b3 := blk_new w2 #[.slice none 0 0] 30
  have hb3 : Below w2.heap.size w2 (w2.alloc (.cells #[.slice none 0 0] 30)) := below_box w2 _
  have hs3 : w2.heap.size < (w2.alloc (.cells #[.slice none 0 0] 30)).heap.size := by simp
  go_upto_region 3 with (refine alloc_one zeroSl rfl rfl rfl ?_)
  try simp only [Act.put]
  generalize w2.alloc (Obj.cells #[Value.slice none 0 0] 30) = V at b3 hb3 hs3 ⊢
  obtain ⟨B, hBd⟩ : ∃ B, Hid (V.heap.size = B) := ⟨_, rfl⟩
  have hS : OfS w.heap.size K w2.heap.size B m o p (Os.mk L c []) V := ⟨a0.below hb3, a1.below hb3, a2.below hb3, a3.below hb3, a4.below hb3, ⟨ad, cap, b2.below hb3, hkl.below hb3⟩, ⟨none, 0, b3, Lg.none _ _ _⟩, hwK, hs2, by rw [← hBd.out]; exact hs3, by rw [hBd.out]; exact Nat.le_refl _⟩
  replace hB := hB.trans (hb3.mono hB.size)
  clear b3 hb3 hs3 hkl b2 a0 a1 a2 a3 a4 hBd
  generalize w2.heap.size = T at *
  have q34 := hS.p.cell 34 _ (pk_get34 p)
  by_cases h1 : 1 < p.n 34
  · have g1 : (1 : Int) < (p.n 34 : Int) := by omega
    have e34 : (p.n 34 : Int) - 1 = ((p.n 34 - 1 : Nat) : Int) := by omega
    have hp34 := p.lt 34
    have hS3 : Hid (stepO m o (stepO m o (stepO m o (Os.mk L c []) (kO p)) (kN p)) (kR p) = S3) := by
      have := hS3.out
      rw [offO, firstO, if_pos h1] at this
      exact this
    have d0 := hS.p
    have c0 := d0.cell 0 _ (pk_get0 p)
    have e0 := d0.cell 34 _ (pk_get34 p)
    have pp := offer1_ok w.heap.size K T B m o p (Os.mk L c []) (p.n 0) (p.n 34 - 1) p.f1 (kO p).lt hc (by show (L.length + 1) * 352 ≤ _; omega) (by simp) _ hS
    rw [← e34] at pp
    clear e34
    go_wp2_with (refine load_part rfl 41 _ rfl (o := 71) d0 rfl (frv p.f1) (part_f1 p) Try.underlying41 rfl sizeFr ?_)
    refine pp.mono ?_
    rintro r v0 ⟨rfl, hS', hb⟩
    replace hB := hB.trans hb
    replace hS : OfS w.heap.size K T B m o p (stepO m o (Os.mk L c []) (kO p)) v0 := hS'
    clear hb pp d0 c0 e0 hS'
    clear g1 q34 hp34
    have hc1 := step_lt m o (Os.mk L c []) (kO p) hc
    have hle : (stepO m o (Os.mk L c []) (kO p)).L.length ≤ L.length + 1 := step_len m o (Os.mk L c []) (kO p)
    have hlt : (stepO m o (Os.mk L c []) (kO p)).t.length ≤ 1 := step_tlen m o (Os.mk L c []) (kO p)
    have hl1 : ((stepO m o (Os.mk L c []) (kO p)).L.length + 1) * 352 ≤ 140737488355328 := by omega
    have ht1 : (stepO m o (Os.mk L c []) (kO p)).t.length ≤ 10 := by omega
    have d1 := hS.p
    have c1 := d1.cell 0 _ (pk_get0 p)
    have e1 := d1.cell 34 _ (pk_get34 p)
    have pp := offer1_ok w.heap.size K T B m o p (stepO m o (Os.mk L c []) (kO p)) (p.n 0) (p.n 34) p.f0 (p.lt 34) hc1 hl1 ht1 _ hS
    go_wp2_with (refine load_part rfl 41 _ rfl (o := 35) d1 rfl (frv p.f0) (part_f0 p) Try.underlying41 rfl sizeFr ?_)
    refine pp.mono ?_
    rintro r v1 ⟨rfl, hS', hb⟩
    replace hB := hB.trans hb
    replace hS : OfS w.heap.size K T B m o p (stepO m o (stepO m o (Os.mk L c []) (kO p)) (kN p)) v1 := hS'
    clear hb pp d1 c1 e1 hS'
    have hc2 := step_lt m o (stepO m o (Os.mk L c []) (kO p)) (kN p) hc1
    have hl2 : ((stepO m o (stepO m o (Os.mk L c []) (kO p)) (kN p)).L.length + 1) * 352 ≤ 140737488355328 := by have := step_len m o (stepO m o (Os.mk L c []) (kO p)) (kN p); omega
    have ht2 : (stepO m o (stepO m o (Os.mk L c []) (kO p)) (kN p)).t.length ≤ 10 := by have := step_tlen m o (stepO m o (Os.mk L c []) (kO p)) (kN p); omega
    have d2 := hS.p
    have c2 := d2.cell 107 _ (pk_get107 p)
    have e2 := d2.cell 108 _ (pk_get108 p)
    have pp := offer1_ok w.heap.size K T B m o p (stepO m o (stepO m o (Os.mk L c []) (kO p)) (kN p)) (p.n 107) (p.n 108) p.f2 (p.lt 108) hc2 hl2 ht2 _ hS
    go_wp2_with (refine load_part rfl 41 _ rfl (o := 109) d2 rfl (frv p.f2) (part_f2 p) Try.underlying41 rfl sizeFr ?_)
    refine pp.mono ?_
    rintro r v2 ⟨rfl, hS', hb⟩
    replace hB := hB.trans hb
    replace hS : OfS w.heap.size K T B m o p (stepO m o (stepO m o (stepO m o (Os.mk L c []) (kO p)) (kN p)) (kR p)) v2 := hS'
    clear hb pp d2 c2 e2 hS'
    generalize hsz : stepO m o _ (kR p) = sz at hS
    obtain rfl : S3 = sz := hS3.out.symm.trans hsz
    clear hsz
    obtain ⟨hc', hm', hp', ho', res, ⟨a3, k3, hk3, hkl⟩, ⟨b3, j3, ht3, htg⟩, h1, h2, h3, h4⟩ := hS
    clear hm' hp' ho' hS3
    go_upto_region 8 with fail
    try simp only [Act.put]
    replace hB := hB.drew
    replace res := res.drew
    replace hkl : Li Kt.vals (w.heap.size + 1 + 1 + 1 + 1 + 1) a3 S3.L (v2.drew) := hkl.below (Below.refl _ _).drew
    replace htg : Lg Kt.vals 38 64 B b3 j3 S3.t (v2.drew) := htg.below (Below.refl _ _).drew
    refine wp_region_held_drew (S := fun w' => Blk K #[.slice a3 S3.L.length k3] 30 w' ∧ (Blk w.heap.size (mbc S3.c) 29 w' ∧ Blk T #[.slice b3 S3.t.length j3] 30 w')) (by kernel_rfl) ⟨hk3.drew, hc'.drew, ht3.drew⟩ (fun hHeld => ?_)
    refine tkH 0 (v := ?v1) rfl (by kernel_rfl) (fun _ _ _ h => h) (Or.inl ⟨by rfl, ?hy1⟩) hHeld ?rest1
    case hy1 => (intro w hSw; have kc : w.cell? ⟨K, 0, none⟩ = some (.slice a3 S3.L.length k3) := hSw.1.cell 0 _ rfl; clear hSw; go_simp; try with_reducible rfl)
    try simp only [List.getElem_toArray, List.getElem_cons_succ, List.getElem_cons_zero, Act.put, List.setIfInBounds_toArray, List.set_cons_succ, List.set_cons_zero]
    refine' tkH 1 (v := _) rfl (by kernel_rfl) (fun _ _ _ h => h) (yieldsIf_load_mid (by rfl) _ _ rfl w.heap.size 0 rfl (mbc S3.c).toList _ ?hS2 Try.underlying29 rfl sizeCt) hHeld ?rest2
    case hS2 => exact fun w h => h.2.1.whole
    try simp only [List.getElem_toArray, List.getElem_cons_succ, List.getElem_cons_zero, Act.put, List.setIfInBounds_toArray, List.set_cons_succ, List.set_cons_zero]
    refine tkH 2 (v := ?v3) rfl (by kernel_rfl) (fun _ _ _ h => h) (Or.inl ⟨by rfl, ?hy3⟩) hHeld ?rest3
    case hy3 => (intro w hSw; have kc : w.cell? ⟨T, 0, none⟩ = some (.slice b3 S3.t.length j3) := hSw.2.2.cell 0 _ rfl; clear hSw; go_simp; try with_reducible rfl)
    try simp only [List.getElem_toArray, List.getElem_cons_succ, List.getElem_cons_zero, Act.put, List.setIfInBounds_toArray, List.set_cons_succ, List.set_cons_zero]
    refine tkH 3 (v := ?v4) rfl (by kernel_rfl) (fun _ _ _ h => h) (Or.inl ⟨by rfl, ?hy4⟩) hHeld ?rest4
    case hy4 => (intro w hSw; clear hSw; go_simp; try with_reducible rfl)
    try simp only [List.getElem_toArray, List.getElem_cons_succ, List.getElem_cons_zero, Act.put, List.setIfInBounds_toArray, List.set_cons_succ, List.set_cons_zero]
    refine wpAnyH_ready (rs := [4]) (by kernel_rfl) (by simp) ?_
    refine AllReadyH.cons rfl (fun KK hK => ?_) (AllReadyH.nil)
    rw [if_pos (by rfl)]
    refine wp_store_all 29 _ _ rfl (cells := mbc S3.c) res rfl rfl sizeCt rfl (mbc_one _) ?_
    intro u hn hk
    replace hkl := hkl.kp hk (by simp)
    replace htg := htg.kp hk (by simp; omega)
    replace hB := hB.trans (hk.below1 (by omega) hB.size)
    refine hK.out _ _ ⟨hHeld.1.kp1 hk (by omega), hHeld.2.1.kp1 hk (by omega), hHeld.2.2.kp1 hk (by omega)⟩ (fun hHeld => ?_)
    clear hK KK hk
    try simp only [List.getElem_toArray, List.getElem_cons_succ, List.getElem_cons_zero, Act.put, List.setIfInBounds_toArray, List.set_cons_succ, List.set_cons_zero]
    refine tkH 5 (v := ?v5) rfl (by kernel_rfl) (fun _ _ _ h => h) (Or.inl ⟨by rfl, ?hy5⟩) hHeld ?rest5
    case hy5 => (intro w hSw; clear hSw; go_simp; try with_reducible rfl)
    try simp only [List.getElem_toArray, List.getElem_cons_succ, List.getElem_cons_zero, Act.put, List.setIfInBounds_toArray, List.set_cons_succ, List.set_cons_zero]
    refine wpAnyH_done (by kernel_rfl) ?_ _
    go_wp2_with fail
    refine bodyPost_ret (w := u) (v := .tuple #[.slice a3 S3.L.length k3, .agg (mbc S3.c), .slice b3 S3.t.length j3]) ?_ rfl ⟨⟨a3, k3, b3, j3, rfl, hkl.mono (by omega), htg.li.mono (by omega)⟩, hB⟩
    exact ret_tct rfl rfl hn Try.underlying29 rfl sizeCt rfl rfl
  · have g1 : ¬ (1 : Int) < (p.n 34 : Int) := by omega
    have hS3 : Hid (stepO m o (stepO m o (Os.mk L c []) (kN p)) (kR p) = S3) := by
      have := hS3.out
      rw [offO, firstO, if_neg h1] at this
      exact this
    obtain ⟨s0, hs0⟩ : ∃ s0, Os.mk L c [] = s0 := ⟨_, rfl⟩
    rw [hs0] at hS hS3
    have hc1 : ∀ i, s0.c i < 4294967296 := by rw [← hs0]; exact hc
    have hle : s0.L.length ≤ L.length + 1 := by rw [← hs0]; show L.length ≤ _; omega
    have hlt : s0.t.length ≤ 1 := by rw [← hs0]; simp
    clear hs0
    have hl1 : (s0.L.length + 1) * 352 ≤ 140737488355328 := by omega
    have ht1 : s0.t.length ≤ 10 := by omega
    have d1 := hS.p
    have c1 := d1.cell 0 _ (pk_get0 p)
    have e1 := d1.cell 34 _ (pk_get34 p)
    have pp := offer1_ok w.heap.size K T B m o p s0 (p.n 0) (p.n 34) p.f0 (p.lt 34) hc1 hl1 ht1 _ hS
    go_wp2_with (refine load_part rfl 41 _ rfl (o := 35) d1 rfl (frv p.f0) (part_f0 p) Try.underlying41 rfl sizeFr ?_)
    refine pp.mono ?_
    rintro r v1 ⟨rfl, hS', hb⟩
    replace hB := hB.trans hb
    replace hS : OfS w.heap.size K T B m o p (stepO m o s0 (kN p)) v1 := hS'
    clear hb pp d1 c1 e1 hS'
    have hc2 := step_lt m o s0 (kN p) hc1
    have hl2 : ((stepO m o s0 (kN p)).L.length + 1) * 352 ≤ 140737488355328 := by have := step_len m o s0 (kN p); omega
    have ht2 : (stepO m o s0 (kN p)).t.length ≤ 10 := by have := step_tlen m o s0 (kN p); omega
    have d2 := hS.p
    have c2 := d2.cell 107 _ (pk_get107 p)
    have e2 := d2.cell 108 _ (pk_get108 p)
    have pp := offer1_ok w.heap.size K T B m o p (stepO m o s0 (kN p)) (p.n 107) (p.n 108) p.f2 (p.lt 108) hc2 hl2 ht2 _ hS
    go_wp2_with (refine load_part rfl 41 _ rfl (o := 109) d2 rfl (frv p.f2) (part_f2 p) Try.underlying41 rfl sizeFr ?_)
    refine pp.mono ?_
    rintro r v2 ⟨rfl, hS', hb⟩
    replace hB := hB.trans hb
    replace hS : OfS w.heap.size K T B m o p (stepO m o (stepO m o s0 (kN p)) (kR p)) v2 := hS'
    clear hb pp d2 c2 e2 hS'
    generalize hsz : stepO m o _ (kR p) = sz at hS
    obtain rfl : S3 = sz := hS3.out.symm.trans hsz
    clear hsz
    obtain ⟨hc', hm', hp', ho', res, ⟨a3, k3, hk3, hkl⟩, ⟨b3, j3, ht3, htg⟩, h1, h2, h3, h4⟩ := hS
    clear hm' hp' ho' hS3
    go_upto_region 8 with fail
    try simp only [Act.put]
    replace hB := hB.drew
    replace res := res.drew
    replace hkl : Li Kt.vals (w.heap.size + 1 + 1 + 1 + 1 + 1) a3 S3.L (v2.drew) := hkl.below (Below.refl _ _).drew
    replace htg : Lg Kt.vals 38 64 B b3 j3 S3.t (v2.drew) := htg.below (Below.refl _ _).drew
    refine wp_region_held_drew (S := fun w' => Blk K #[.slice a3 S3.L.length k3] 30 w' ∧ (Blk w.heap.size (mbc S3.c) 29 w' ∧ Blk T #[.slice b3 S3.t.length j3] 30 w')) (by kernel_rfl) ⟨hk3.drew, hc'.drew, ht3.drew⟩ (fun hHeld => ?_)
    refine tkH 0 (v := ?v6) rfl (by kernel_rfl) (fun _ _ _ h => h) (Or.inl ⟨by rfl, ?hy6⟩) hHeld ?rest6
    case hy6 => (intro w hSw; have kc : w.cell? ⟨K, 0, none⟩ = some (.slice a3 S3.L.length k3) := hSw.1.cell 0 _ rfl; clear hSw; go_simp; try with_reducible rfl)
    try simp only [List.getElem_toArray, List.getElem_cons_succ, List.getElem_cons_zero, Act.put, List.setIfInBounds_toArray, List.set_cons_succ, List.set_cons_zero]
    refine' tkH 1 (v := _) rfl (by kernel_rfl) (fun _ _ _ h => h) (yieldsIf_load_mid (by rfl) _ _ rfl w.heap.size 0 rfl (mbc S3.c).toList _ ?hS7 Try.underlying29 rfl sizeCt) hHeld ?rest7
    case hS7 => exact fun w h => h.2.1.whole
    try simp only [List.getElem_toArray, List.getElem_cons_succ, List.getElem_cons_zero, Act.put, List.setIfInBounds_toArray, List.set_cons_succ, List.set_cons_zero]
    refine tkH 2 (v := ?v8) rfl (by kernel_rfl) (fun _ _ _ h => h) (Or.inl ⟨by rfl, ?hy8⟩) hHeld ?rest8
    case hy8 => (intro w hSw; have kc : w.cell? ⟨T, 0, none⟩ = some (.slice b3 S3.t.length j3) := hSw.2.2.cell 0 _ rfl; clear hSw; go_simp; try with_reducible rfl)
    try simp only [List.getElem_toArray, List.getElem_cons_succ, List.getElem_cons_zero, Act.put, List.setIfInBounds_toArray, List.set_cons_succ, List.set_cons_zero]
    refine tkH 3 (v := ?v9) rfl (by kernel_rfl) (fun _ _ _ h => h) (Or.inl ⟨by rfl, ?hy9⟩) hHeld ?rest9
    case hy9 => (intro w hSw; clear hSw; go_simp; try with_reducible rfl)
    try simp only [List.getElem_toArray, List.getElem_cons_succ, List.getElem_cons_zero, Act.put, List.setIfInBounds_toArray, List.set_cons_succ, List.set_cons_zero]
    refine wpAnyH_ready (rs := [4]) (by kernel_rfl) (by simp) ?_
    refine AllReadyH.cons rfl (fun KK hK => ?_) (AllReadyH.nil)
    rw [if_pos (by rfl)]
    refine wp_store_all 29 _ _ rfl (cells := mbc S3.c) res rfl rfl sizeCt rfl (mbc_one _) ?_
    intro u hn hk
    replace hkl := hkl.kp hk (by simp)
    replace htg := htg.kp hk (by simp; omega)
    replace hB := hB.trans (hk.below1 (by omega) hB.size)
    refine hK.out _ _ ⟨hHeld.1.kp1 hk (by omega), hHeld.2.1.kp1 hk (by omega), hHeld.2.2.kp1 hk (by omega)⟩ (fun hHeld => ?_)
    clear hK KK hk
    try simp only [List.getElem_toArray, List.getElem_cons_succ, List.getElem_cons_zero, Act.put, List.setIfInBounds_toArray, List.set_cons_succ, List.set_cons_zero]
    refine tkH 5 (v := ?v10) rfl (by kernel_rfl) (fun _ _ _ h => h) (Or.inl ⟨by rfl, ?hy10⟩) hHeld ?rest10
    case hy10 => (intro w hSw; clear hSw; go_simp; try with_reducible rfl)
    try simp only [List.getElem_toArray, List.getElem_cons_succ, List.getElem_cons_zero, Act.put, List.setIfInBounds_toArray, List.set_cons_succ, List.set_cons_zero]
    refine wpAnyH_done (by kernel_rfl) ?_ _
    go_wp2_with fail
    refine bodyPost_ret (w := u) (v := .tuple #[.slice a3 S3.L.length k3, .agg (mbc S3.c), .slice b3 S3.t.length j3]) ?_ rfl ⟨⟨a3, k3, b3, j3, rfl, hkl.mono (by omega), htg.li.mono (by omega)⟩, hB⟩
    exact ret_tct rfl rfl hn Try.underlying29 rfl sizeCt rfl rfl

theorem offer_ok (L : List Kt) (la : Option Addr) (lc : Nat) (c m o : Nat → Nat) (p : Pk) (hc : ∀ i, c i < 4294967296) (hl : L.length * 352 ≤ 140737488351232) (w : World) (lS : Li Kt.vals 0 la L w) :
    Calls Try.prog 85 #[.slice la L.length lc, .agg (mbc c), .agg (mbc m), .agg (pkc p), .agg (mbc o)] w fun e w' => Offered (offO m o p (Os.mk L c [])) e w' ∧ Below w.heap.size w w' :=
  (offer_new L la lc c m o p hc hl w lS).mono fun e w' ⟨⟨a, k, b, j, e1, h1, h2⟩, hb⟩ => ⟨⟨a, k, b, j, e1, h1.mono (Nat.zero_le _), h2.mono (Nat.zero_le _)⟩, hb⟩

end Go.Proofs.Ythgmecgknhphmaa
