/-
  Whatever packets come, forged ones among them, when: what a core installs has rising Ids, and itself among the members, with its incarnation; promises do not fall; and in each configuration the frames that it tells of each member have the rounds 1, 2, 3 and so on, each once: the law CoreViews returns true for every input.
  No condition beyond the form's own.
-/
import Derived.Test.YthgmecgknhphmaaRows
import Derived.Test.YthgmecgknhphmaaCeSt
import Derived.Test.YthgmecgknhphmaaCeV
import Derived.Test.YthgmecgknhphmaaImR
import Derived.WalkKit
import Derived.ProofKit
import Derived.OpenShut
import Derived.ShutString
import Derived.SizedLaws
import Derived.ChangeOld
import Derived.Below
namespace Go.Proofs.Ythgmecgknhphmaa.coreViews
open Go.Sort Go.ChangeShapes Go.WideShapes Go.ChangeAt Go.RowKit
open Go.ChangeMaps (open_string shut_string)
set_option linter.unusedVariables false
set_option maxRecDepth 10000

theorem own : ownKnob Try.prog.godebug = none := by kernel_rfl
theorem length_bytes (s : ByteArray) : s.data.toList.length = s.size := by rw [Array.length_toList]; rfl

def Vw (V : World) (S : Sg) (p11 p12 : Value) (w' : World) : Prop :=
  ∃ y a2 k2 ta tk, p11 = .pointer (some ⟨y, 0, none⟩) ∧ p12 = .slice ta S.t.length tk ∧ V.heap.size ≤ y ∧ Blk y (coc (S.c.kp a2 S.L.length k2)) 35 w' ∧ Li Kt.vals V.heap.size a2 S.L w' ∧ Li Hp.vals V.heap.size ta S.t w' ∧ Off a2 S.L y ∧ Off ta S.t y ∧ Below V.heap.size V w'
theorem stp_step {s n : Nat} (hs : s < 8) {c : Co} (h : Iv s n c) (hf : c.fit) (L : List Kt) (e : Ev) : Stp s n c (stepS c L e) := by
  unfold stepS
  split
  · exact iv_tick hs h hf L e.f
  · exact iv_recv hs h L e.p

set_option maxHeartbeats 16000000 in
theorem walk (sI : Int) (_ws : (Lit.int .i64 sI).wf = true) (n0 : Int) (wn : (Lit.int .u32 n0).wf = true) (la : Option Addr) (L : List Ev) (lc : Nat) (lm : L.length ≤ maxLen) (w : World) (hS0 : Li Ev.vals 0 la L w) :
    Calls Try.prog 5 #[.int .i64 sI, .int .u32 n0, .slice la L.length lc] w fun e w' => e = .returned (.bool true) ∧ Below w.heap.size w w' := by
  obtain ⟨n, rfl, hn⟩ := u32_of n0 wn
  have pS := start_ok sI n 3
  obtain ⟨Q, hQ⟩ : ∃ Q, startB sI n 3 = Q := ⟨_, rfl⟩
  obtain ⟨C0, hC0⟩ : ∃ c, Hid (startC sI n 3 = c) := ⟨_, rfl⟩
  rw [hQ, hC0.out] at pS
  obtain ⟨N, hN⟩ : ∃ N, L.length = N := ⟨_, rfl⟩
  simp only [maxLen] at lm
  rw [hN] at lm ⊢
  have HN : Hid (L.length = N) := hN
  clear hN
  go_enter Try.func5, Try.ntmps5
  go_wp2_with fail
  refine (pS _).mono ?_
  rintro r w0 ⟨rfl, hB⟩
  clear pS
  have hq0 := hB.size
  have hb := below_box w0 (.cells (coc C0) 35)
  have v0 := blk_new w0 (coc C0) 35
  go_upto_region 2 with (first | refine alloc_zero zeroCo rfl rfl ?_ | refine store_new rfl 35 _ _ rfl (cells := coc C0) rfl rfl sizeCo rfl (coc_one _) ?_)
  try simp only [Act.put, List.setIfInBounds_toArray, List.set_cons_zero, List.set_cons_succ]
  generalize w0.alloc (Obj.cells (coc C0) 35) = W0 at v0 hb ⊢
  replace hB := hB.trans (hb.mono hB.size)
  clear hb 
  generalize w0.heap.size = q at v0 hq0 ⊢
  go_wp2_with fail
  refine (fixed_ok _).mono ?_
  rintro r w1 ⟨rfl, hb⟩
  replace v0 := v0.below hb
  replace hB := hB.trans (hb.mono hB.size)
  clear hb 
  cases Q with
  | false =>
    clear v0 hC0
    go_wp2_with fail
    refine (fixed_ok _).mono ?_
    rintro r w9 ⟨rfl, hb⟩
    replace hB := hB.trans (hb.mono hB.size)
    go_wp2_with fail
    go_ret
    exact ⟨rfl, hB⟩
  | true =>
    have hQ' := of_decide_eq_true hQ
    obtain ⟨s, rfl⟩ : ∃ s : Nat, sI = (s : Int) := ⟨sI.toNat, by omega⟩
    have hs : s < 8 := by omega
    have s0 : (s : Int) < 8 := by omega
    have s1 : (0 : Int) ≤ (s : Int) := by omega
    have HA : Hid (Iv s n C0 ∧ ∀ i, C0.count i = 0) := by show Iv s n C0 ∧ ∀ i, C0.count i = 0; rw [← hC0.out]; exact iv_start s n 3 hQ
    have HF : Hid C0.fit := by show C0.fit; rw [← hC0.out]; exact fit_start hn 3 hQ
    have hz : Hid (C0.ka = none ∧ C0.kn = 0 ∧ C0.kc = 0) := by show C0.ka = none ∧ C0.kn = 0 ∧ C0.kc = 0; rw [← hC0.out, startC, hQ, if_pos rfl]; exact ⟨rfl, rfl, rfl⟩
    have v1 : Blk q (coc (C0.kp none ([] : List Kt).length 0)) 35 w1 := by
      have e : C0.kp none ([] : List Kt).length 0 = C0 := by
        have h := kp_self C0 0 hz.out.2.1
        rw [hz.out.1, hz.out.2.2] at h
        exact h
      rw [e]; exact v0
    clear v0 hC0 hz hQ hQ' wn
    have hql := v1.lt
    have hb := below_box w1 (.cells (mbc noMb) 29)
    have z0 := blk_new w1 (mbc noMb) 29
    go_upto_region 6 with (first | (refine build_as rfl 29 #[] rfl (C := mbc noMb) ?_ ?_; kernel_rfl) | refine alloc_zero zeroCt rfl rfl ?_ | refine store_new rfl 29 _ _ rfl (cells := mbc noMb) rfl rfl sizeCt rfl (mbc_one _) ?_)
    try simp only [Act.put, List.setIfInBounds_toArray, List.set_cons_zero, List.set_cons_succ]
    generalize w1.alloc (Obj.cells (mbc noMb) 29) = W1 at z0 hb ⊢
    replace v1 := v1.below hb
    replace hB := hB.trans (hb.mono hB.size)
    clear hb 
    generalize w1.heap.size = z at z0 hql ⊢
    have z1 : Blk z (mbc C0.count) 29 W1 := by rw [mbc_ext (f := C0.count) (g := noMb) (fun i _ => HA.out.2 i)]; exact z0
    clear z0
    go_loopw [10] (fun iv wr => ∃ (i : Nat) (c : Co) (K : List Kt) (a : Option Addr) (k : Nat), i ≤ N ∧ i ≤ 100 ∧ iv = .int .i64 i ∧ Hid (Iv s n c ∧ c.fit ∧ K.length ≤ 3 * i) ∧ Blk q (coc (c.kp a K.length k)) 35 wr ∧ Blk z (mbc c.count) 29 wr ∧ Li Kt.vals 0 a K wr ∧ Below w.heap.size w wr) (fun iv _ => 1000 - (intOf iv).toNat)
    case atStart => exact ⟨0, C0, [], none, 0, by omega, by omega, rfl, ⟨HA.out.1, HF.out, by simp⟩, v1, z1, Li.nil _ _ _, hB⟩
    case round =>
      clear v1 z1 hB HA HF
      obtain ⟨i, c, K, a, k, hiN, hi2, rfl, HI, v0, z0, lk, hB⟩ := hrel
      rename World => V
      have fin : ∀ u (h : Below V.heap.size V u), True := fun _ _ => trivial
      clear fin
      by_cases hjn : i < N
      · have j0 : (i : Int) < (N : Int) := by omega
        by_cases hj2 : i < 100
        · have j2 : (i : Int) < 100 := by omega
          have j1 : (0 : Int) ≤ (i : Int) := by omega
          obtain ⟨x, hk⟩ : ∃ k, L[i]? = some k := ⟨_, List.getElem?_eq_getElem (by rw [HN.out]; exact hjn)⟩
          have hS : Li Ev.vals 0 la L V := hS0.below hB
          obtain ⟨b, o, rfl, _, hbl, _⟩ := hS.at Ev.vals_length i x hk
          obtain ⟨hIv, hfit, hlen⟩ := HI.out
          have pt := fun u h => step_ok c K x s hs hIv.self hfit a k (by omega) u h
          have hfit2 := stepS_fit hfit s hs hIv.self K x
          have hlen2 := stepS_len c K x
          have hst := stp_step hs hIv hfit K x
          obtain ⟨S, hSS⟩ : ∃ S, stepS c K x = S := ⟨_, rfl⟩
          rw [hSS] at pt hfit2 hlen2 hst
          obtain ⟨e, he⟩ : ∃ e, Hid (c.kp a K.length k = e) := ⟨_, rfl⟩
          have e1 : e.pr = c.pr ∧ e.conf = c.conf := by rw [← he.out]; exact ⟨rfl, rfl⟩
          rw [he.out] at v0 pt
          have HJ : Hid (Iv s n S.c ∧ S.c.fit ∧ S.L.length ≤ 3 * (i + 1)) := ⟨hst.iv, hfit2, by omega⟩
          have hT4 : S.t.length ≤ 4 := hlen2.2
          -- what is compared
          obtain ⟨k1, hk1⟩ : ∃ k, cmpId S.c.pr e.pr = k := ⟨_, rfl⟩
          obtain ⟨k2', hk2⟩ : ∃ k, cmpId S.c.conf e.conf = k := ⟨_, rfl⟩
          obtain ⟨k3, hk3⟩ : ∃ k, cmpId S.c.conf S.c.pr = k := ⟨_, rfl⟩
          have n1 : Hid (¬ k1 < 0) := by show ¬ k1 < 0; rw [← hk1, e1.1]; exact fun h => hst.pr (cmpId_lt.1 h)
          have n2 : Hid (¬ k2' < 0) := by show ¬ k2' < 0; rw [← hk2, e1.2]; exact fun h => hst.conf (cmpId_lt.1 h)
          have n3 : Hid (¬ 0 < k3) := by show ¬ 0 < k3; rw [← hk3]; exact fun h => hst.iv.le (cmpId_gt.1 h)
          have r1 := rcmp_ok S.c.pr e.pr
          have r2 := rcmp_ok S.c.conf e.conf
          have r3 := rcmp_ok S.c.conf S.c.pr
          rw [hk1] at r1
          rw [hk2] at r2
          rw [hk3] at r3
          have HWk : Hid (Walks c S.c s n c.count S.t S.c.count) := hst.wk
          have Hec : Hid (e.conf = c.conf) := e1.2
          have Hss : Hid (S.c.self = (s : Int) ∧ S.c.own = n) := ⟨hst.iv.self, hst.iv.own⟩
          clear hst hfit2 hlen2 hIv hfit hSS hlen HI he e1 hk1 hk2 hk3
          obtain ⟨x1, rfl⟩ : ∃ x : Nat, k1 = (x : Int) := ⟨k1.toNat, by have := n1.out; omega⟩
          obtain ⟨x2, rfl⟩ : ∃ x : Nat, k2' = (x : Int) := ⟨k2'.toNat, by have := n2.out; omega⟩
          obtain ⟨x3, rfl⟩ : ∃ x : Nat, k3 = -(x : Int) := ⟨(-k3).toNat, by have := n3.out; omega⟩
          clear n1 n2 n3
          go_upto_region 8 with fail
          have hvl := v0.lt
          go_cut [11, 12] from 39 to 47 (fun p11 p12 wx => Vw V S p11 p12 wx)
          case first =>
            clear HJ r1 r2 r3 HWk Hec Hss
            refine wp_region_held_drew (S := fun w' => Below V.heap.size V w') (by kernel_rfl) (Below.refl _ _).drew (fun hHeld => ?_)
            refine' wpAnyH_take (i := 0) (v := _) rfl (by kernel_rfl) (by kernel_rfl) (by kernel_rfl) (fun _ _ _ h => h) (yieldsIf_load_mid (by rfl) _ _ rfl q 0 rfl (col e) _ ?hS1 Try.underlying35 rfl sizeCo) hHeld ?rest1
            case hS1 => exact fun w h => (v0.below h).whole
            try simp only [List.getElem_toArray]
            try simp only [List.getElem_cons_succ]
            try simp only [List.getElem_cons_zero]
            try simp only [Act.put]
            try simp only [List.setIfInBounds_toArray]
            try simp only [List.set_cons_succ]
            try simp only [List.set_cons_zero]
            refine wpAnyH_take (i := 1) (v := ?v2) rfl (by kernel_rfl) (by kernel_rfl) (by kernel_rfl) (fun _ _ _ h => h) (Or.inl ⟨by rfl, ?hy2⟩) hHeld ?rest2
            case hy2 => (intro w hSw; clear hSw; go_simp; try with_reducible rfl)
            try simp only [List.getElem_toArray]
            try simp only [List.getElem_cons_succ]
            try simp only [List.getElem_cons_zero]
            try simp only [Act.put]
            try simp only [List.setIfInBounds_toArray]
            try simp only [List.set_cons_succ]
            try simp only [List.set_cons_zero]
            refine wpAnyH_take (i := 2) (v := ?v3) rfl (by kernel_rfl) (by kernel_rfl) (by kernel_rfl) (fun _ _ _ h => h) (Or.inl ⟨by rfl, ?hy3⟩) hHeld ?rest3
            case hy3 => (intro w hSw; clear hSw; go_simp; try with_reducible rfl)
            try simp only [List.getElem_toArray]
            try simp only [List.getElem_cons_succ]
            try simp only [List.getElem_cons_zero]
            try simp only [Act.put]
            try simp only [List.setIfInBounds_toArray]
            try simp only [List.set_cons_succ]
            try simp only [List.set_cons_zero]
            refine wpAnyH_take (i := 3) (v := ?v4) rfl (by kernel_rfl) (by kernel_rfl) (by kernel_rfl) (fun _ _ _ h => h) (Or.inl ⟨by rfl, ?hy4⟩) hHeld ?rest4
            case hy4 => (intro w hSw; clear hSw; go_simp; try with_reducible rfl)
            try simp only [List.getElem_toArray]
            try simp only [List.getElem_cons_succ]
            try simp only [List.getElem_cons_zero]
            try simp only [Act.put]
            try simp only [List.setIfInBounds_toArray]
            try simp only [List.set_cons_succ]
            try simp only [List.set_cons_zero]
            refine' wpAnyH_take (i := 4) (v := _) rfl (by kernel_rfl) (by kernel_rfl) (by kernel_rfl) (fun _ _ _ h => h) (yieldsIf_load_mid (by rfl) _ _ rfl b (o + i * 182) rfl x.vals _ ?hS5 Try.underlying61 rfl sizeEv) hHeld ?rest5
            case hS5 => exact fun w h => (hS.below h).rng Ev.vals_length i x hk
            try simp only [List.getElem_toArray]
            try simp only [List.getElem_cons_succ]
            try simp only [List.getElem_cons_zero]
            try simp only [Act.put]
            try simp only [List.setIfInBounds_toArray]
            try simp only [List.set_cons_succ]
            try simp only [List.set_cons_zero]
            refine wpAnyH_ready (rs := [5, 9]) (by kernel_rfl) (by simp) ?_
            refine AllReadyH.cons rfl (fun K hK => ?_) (AllReadyH.cons rfl (fun K hK => ?_) (AllReadyH.nil))
            · have hcz := hHeld.size
              go_simp
              go_wp2_with (refine (pt _ (lk.below hHeld)).mono ?_; rintro r u1 ⟨⟨a2, k2, ta, tk, rfl, l2, m2⟩, hb⟩)
              refine hK.out _ _ (hHeld.below hb) (fun hHeld => ?_)
              clear hK K hb
              refine wpAnyH_take (i := 6) (v := ?v6) rfl (by kernel_rfl) (by kernel_rfl) (by kernel_rfl) (fun _ _ _ h => h) (Or.inl ⟨by rfl, ?hy6⟩) hHeld ?rest6
              case hy6 => (intro w hSw; clear hSw; go_simp; try with_reducible rfl)
              try simp only [List.getElem_toArray]
              try simp only [List.getElem_cons_succ]
              try simp only [List.getElem_cons_zero]
              try simp only [Act.put]
              try simp only [List.setIfInBounds_toArray]
              try simp only [List.set_cons_succ]
              try simp only [List.set_cons_zero]
              refine wpAnyH_take (i := 7) (v := ?v7) rfl (by kernel_rfl) (by kernel_rfl) (by kernel_rfl) (fun _ _ _ h => h) (Or.inl ⟨by rfl, ?hy7⟩) hHeld ?rest7
              case hy7 => (intro w hSw; clear hSw; go_simp; try with_reducible rfl)
              try simp only [List.getElem_toArray]
              try simp only [List.getElem_cons_succ]
              try simp only [List.getElem_cons_zero]
              try simp only [Act.put]
              try simp only [List.setIfInBounds_toArray]
              try simp only [List.set_cons_succ]
              try simp only [List.set_cons_zero]
              refine wpAnyH_take (i := 8) (v := ?v8) rfl (by kernel_rfl) (by kernel_rfl) (by kernel_rfl) (fun _ _ _ h => h) (Or.inl ⟨by rfl, ?hy8⟩) hHeld ?rest8
              case hy8 => (intro w hSw; clear hSw; go_simp; try with_reducible rfl)
              try simp only [List.getElem_toArray]
              try simp only [List.getElem_cons_succ]
              try simp only [List.getElem_cons_zero]
              try simp only [Act.put]
              try simp only [List.setIfInBounds_toArray]
              try simp only [List.set_cons_succ]
              try simp only [List.set_cons_zero]
              refine wpAnyH_ready (rs := [9]) (by kernel_rfl) (by simp) ?_
              refine AllReadyH.cons rfl (fun K hK => ?_) (AllReadyH.nil)
              rw [if_pos (by rfl)]
              refine wp_alloc_any zeroCo rfl ?_
              intro yp u2 y0 hb yl yt
              have yg := Nat.le_trans hHeld.size yl
              have ho_l2 := Off.li l2 yp (.inr yl)
              replace l2 := l2.below hb
              have ho_m2 := Off.li m2 yp (.inr yl)
              replace m2 := m2.below hb
              refine hK.out _ _ (hHeld.below hb) (fun hHeld => ?_)
              clear hK K hb yl yt
              try simp only [List.getElem_toArray]
              try simp only [List.getElem_cons_succ]
              try simp only [List.getElem_cons_zero]
              try simp only [Act.put]
              try simp only [List.setIfInBounds_toArray]
              try simp only [List.set_cons_succ]
              try simp only [List.set_cons_zero]
              refine wpAnyH_ready (rs := [10]) (by kernel_rfl) (by simp) ?_
              refine AllReadyH.cons rfl (fun K hK => ?_) (AllReadyH.nil)
              rw [if_pos (by rfl)]
              refine wp_store_all 35 _ _ rfl (cells := (coc (S.c.kp a2 S.L.length k2))) y0 rfl rfl sizeCo rfl (coc_one _) ?_
              intro u3 hn9 hk9
              replace y0 := hn9
              replace l2 := l2.off hk9 (fun q hq => by simp at hq; subst hq; exact ho_l2)
              replace m2 := m2.off hk9 (fun q hq => by simp at hq; subst hq; exact ho_m2)
              refine hK.out _ _ (below_kp hHeld hk9 yg) (fun hHeld => ?_)
              clear hK K hk9 hn9
              try simp only [List.getElem_toArray]
              try simp only [List.getElem_cons_succ]
              try simp only [List.getElem_cons_zero]
              try simp only [Act.put]
              try simp only [List.setIfInBounds_toArray]
              try simp only [List.set_cons_succ]
              try simp only [List.set_cons_zero]
              refine wpAnyH_take (i := 11) (v := ?v9) rfl (by kernel_rfl) (by kernel_rfl) (by kernel_rfl) (fun _ _ _ h => h) (Or.inl ⟨by rfl, ?hy9⟩) hHeld ?rest9
              case hy9 => (intro w hSw; clear hSw; go_simp; try with_reducible rfl)
              try simp only [List.getElem_toArray]
              try simp only [List.getElem_cons_succ]
              try simp only [List.getElem_cons_zero]
              try simp only [Act.put]
              try simp only [List.setIfInBounds_toArray]
              try simp only [List.set_cons_succ]
              try simp only [List.set_cons_zero]
              refine wpAnyH_done (by kernel_rfl) ?_ _
              go_wp2_with fail
              go_meet
              exact ⟨yp, a2, k2, ta, tk, rfl, rfl, yg, y0, l2.mono (by omega), m2.mono (by omega), ho_l2, ho_m2, hHeld⟩
            · rw [if_pos (by rfl)]
              refine wp_alloc_any zeroCo rfl ?_
              intro yp u4 y0 hb yl yt
              have yg := Nat.le_trans hHeld.size yl
              refine hK.out _ _ (hHeld.below hb) (fun hHeld => ?_)
              clear hK K hb yl
              try simp only [List.getElem_toArray]
              try simp only [List.getElem_cons_succ]
              try simp only [List.getElem_cons_zero]
              try simp only [Act.put]
              try simp only [List.setIfInBounds_toArray]
              try simp only [List.set_cons_succ]
              try simp only [List.set_cons_zero]
              refine wpAnyH_ready (rs := [5]) (by kernel_rfl) (by simp) ?_
              refine AllReadyH.cons rfl (fun K hK => ?_) (AllReadyH.nil)
              have hcz := hHeld.size
              go_simp
              go_wp2_with (refine (pt _ (lk.below hHeld)).mono ?_; rintro r u5 ⟨⟨a2, k2, ta, tk, rfl, l2, m2⟩, hb⟩)
              replace y0 := y0.below hb
              have ho_l2 := Off.li l2 yp (.inl yt)
              have ho_m2 := Off.li m2 yp (.inl yt)
              refine hK.out _ _ (hHeld.below hb) (fun hHeld => ?_)
              clear hK K hb
              refine wpAnyH_take (i := 6) (v := ?v10) rfl (by kernel_rfl) (by kernel_rfl) (by kernel_rfl) (fun _ _ _ h => h) (Or.inl ⟨by rfl, ?hy10⟩) hHeld ?rest10
              case hy10 => (intro w hSw; clear hSw; go_simp; try with_reducible rfl)
              try simp only [List.getElem_toArray]
              try simp only [List.getElem_cons_succ]
              try simp only [List.getElem_cons_zero]
              try simp only [Act.put]
              try simp only [List.setIfInBounds_toArray]
              try simp only [List.set_cons_succ]
              try simp only [List.set_cons_zero]
              refine wpAnyH_take (i := 7) (v := ?v11) rfl (by kernel_rfl) (by kernel_rfl) (by kernel_rfl) (fun _ _ _ h => h) (Or.inl ⟨by rfl, ?hy11⟩) hHeld ?rest11
              case hy11 => (intro w hSw; clear hSw; go_simp; try with_reducible rfl)
              try simp only [List.getElem_toArray]
              try simp only [List.getElem_cons_succ]
              try simp only [List.getElem_cons_zero]
              try simp only [Act.put]
              try simp only [List.setIfInBounds_toArray]
              try simp only [List.set_cons_succ]
              try simp only [List.set_cons_zero]
              refine wpAnyH_take (i := 8) (v := ?v12) rfl (by kernel_rfl) (by kernel_rfl) (by kernel_rfl) (fun _ _ _ h => h) (Or.inl ⟨by rfl, ?hy12⟩) hHeld ?rest12
              case hy12 => (intro w hSw; clear hSw; go_simp; try with_reducible rfl)
              try simp only [List.getElem_toArray]
              try simp only [List.getElem_cons_succ]
              try simp only [List.getElem_cons_zero]
              try simp only [Act.put]
              try simp only [List.setIfInBounds_toArray]
              try simp only [List.set_cons_succ]
              try simp only [List.set_cons_zero]
              refine wpAnyH_ready (rs := [10]) (by kernel_rfl) (by simp) ?_
              refine AllReadyH.cons rfl (fun K hK => ?_) (AllReadyH.nil)
              rw [if_pos (by rfl)]
              refine wp_store_all 35 _ _ rfl (cells := (coc (S.c.kp a2 S.L.length k2))) y0 rfl rfl sizeCo rfl (coc_one _) ?_
              intro u6 hn9 hk9
              replace y0 := hn9
              replace l2 := l2.off hk9 (fun q hq => by simp at hq; subst hq; exact ho_l2)
              replace m2 := m2.off hk9 (fun q hq => by simp at hq; subst hq; exact ho_m2)
              refine hK.out _ _ (below_kp hHeld hk9 yg) (fun hHeld => ?_)
              clear hK K hk9 hn9
              try simp only [List.getElem_toArray]
              try simp only [List.getElem_cons_succ]
              try simp only [List.getElem_cons_zero]
              try simp only [Act.put]
              try simp only [List.setIfInBounds_toArray]
              try simp only [List.set_cons_succ]
              try simp only [List.set_cons_zero]
              refine wpAnyH_take (i := 11) (v := ?v13) rfl (by kernel_rfl) (by kernel_rfl) (by kernel_rfl) (fun _ _ _ h => h) (Or.inl ⟨by rfl, ?hy13⟩) hHeld ?rest13
              case hy13 => (intro w hSw; clear hSw; go_simp; try with_reducible rfl)
              try simp only [List.getElem_toArray]
              try simp only [List.getElem_cons_succ]
              try simp only [List.getElem_cons_zero]
              try simp only [Act.put]
              try simp only [List.setIfInBounds_toArray]
              try simp only [List.set_cons_succ]
              try simp only [List.set_cons_zero]
              refine wpAnyH_done (by kernel_rfl) ?_ _
              go_wp2_with fail
              go_meet
              exact ⟨yp, a2, k2, ta, tk, rfl, rfl, yg, y0, l2.mono (by omega), m2.mono (by omega), ho_l2, ho_m2, hHeld⟩
          case rest =>
            obtain ⟨y, a2, k2, ta, tk, rfl, rfl, hyg, y0, l2, m2, ho1, ho2, hb⟩ := hcut
            rename World => V2
            clear pt lk
            have hzl := z0.lt
            replace v0 := v0.below hb
            replace z0 := z0.below hb
            replace hS := hS.below hb
            replace hB := hB.trans (hb.mono hB.size)
            clear hb
            obtain ⟨d, hd⟩ : ∃ d, Hid (S.c.kp a2 S.L.length k2 = d) := ⟨_, rfl⟩
            rw [hd.out] at y0
            have d1 : Hid (d.pr = S.c.pr ∧ d.conf = S.c.conf ∧ d.mem = S.c.mem ∧ d.count = S.c.count) := by show _ ∧ _; rw [← hd.out]; exact ⟨rfl, rfl, rfl, rfl⟩
            have d2 : Hid (d.self = (s : Int) ∧ d.own = n) := by show _ ∧ _; rw [← hd.out]; exact Hss.out
            rw [← d1.out.1, ← d1.out.2.1] at r3
            rw [← d1.out.1] at r1
            rw [← d1.out.2.1] at r2
            go_wp2_with (first | refine load_part rfl 27 _ rfl (o := 40) y0 rfl d.pr.vals d.p_pr Try.underlying27 rfl sizeIdn ?_ | refine load_part rfl 27 _ rfl (o := 40) v0 rfl e.pr.vals e.p_pr Try.underlying27 rfl sizeIdn ?_)
            refine (r1 _).mono ?_
            rintro r w3 ⟨rfl, hb⟩
            replace v0 := v0.below hb
            replace z0 := z0.below hb
            replace y0 := y0.below hb
            replace l2 := l2.below hb
            replace m2 := m2.below hb
            replace hS := hS.below hb
            replace hB := hB.trans (hb.mono hB.size)
            clear hb 
            have q1 : (0 : Int) ≤ (x1 : Int) := by omega
            have q1' : ¬ (x1 : Int) < 0 := by omega
            go_wp2_with (first | refine load_wpart rfl 27 _ rfl (o := 20) y0 rfl d.conf.vals d.p_conf Try.underlying27 rfl sizeIdn ?_ | refine load_wpart rfl 27 _ rfl (o := 20) v0 rfl e.conf.vals e.p_conf Try.underlying27 rfl sizeIdn ?_)
            refine (r2 _).mono ?_
            rintro r w4 ⟨rfl, hb⟩
            replace v0 := v0.below hb
            replace z0 := z0.below hb
            replace y0 := y0.below hb
            replace l2 := l2.below hb
            replace m2 := m2.below hb
            replace hS := hS.below hb
            replace hB := hB.trans (hb.mono hB.size)
            clear hb 
            have q2 : (0 : Int) ≤ (x2 : Int) := by omega
            have q2' : ¬ (x2 : Int) < 0 := by omega
            go_wp2_with (first | refine load_wpart rfl 27 _ rfl (o := 20) y0 rfl d.conf.vals d.p_conf Try.underlying27 rfl sizeIdn ?_ | refine load_wpart rfl 27 _ rfl (o := 40) y0 rfl d.pr.vals d.p_pr Try.underlying27 rfl sizeIdn ?_)
            refine (r3 _).mono ?_
            rintro r w5 ⟨rfl, hb⟩
            replace v0 := v0.below hb
            replace z0 := z0.below hb
            replace y0 := y0.below hb
            replace l2 := l2.below hb
            replace m2 := m2.below hb
            replace hS := hS.below hb
            replace hB := hB.trans (hb.mono hB.size)
            clear hb 
            have q3 : ¬ (0 : Int) < -(x3 : Int) := by omega
            have c1 := y0.cell 0 (.int .i64 d.self) rfl
            have c2 := y0.cell 2 (.int .u32 (d.own : Int)) rfl
            rw [d2.out.1] at c1
            rw [d2.out.2] at c2
            clear r1 r2 r3
            go_upto_region 12 with fail
            clear c1 c2 d2
            obtain ⟨Tt, hTt⟩ : ∃ T, S.t = T := ⟨_, rfl⟩
            rw [hTt] at m2 ho2 hT4 HWk ⊢
            obtain ⟨M, hM⟩ : ∃ M, Tt.length = M := ⟨_, rfl⟩
            rw [hM] at hT4 ⊢
            have HM : Hid (Tt.length = M) := hM
            clear hM hTt
            have hoz : Off ta Tt z := Off.li m2 _ (.inl (by omega))
            have holz : Off a2 S.L z := Off.li l2 _ (.inl (by omega))
            have holq : Off a2 S.L q := Off.li l2 _ (.inl (by omega))
            rename World => V5
            go_loopw [13] (fun jv wr => ∃ (j : Nat) (m : Nat → Nat), j ≤ M ∧ jv = .int .i64 j ∧ Hid (Walks c S.c s n m (Tt.drop j) S.c.count) ∧ Blk q (coc e) 35 wr ∧ Blk z (mbc m) 29 wr ∧ Blk y (coc d) 35 wr ∧ Li Kt.vals V.heap.size a2 S.L wr ∧ Li Hp.vals V.heap.size ta Tt wr ∧ Li Ev.vals 0 (some ⟨b, o, none⟩) L wr ∧ Below w.heap.size w wr) (fun jv _ => 10 - (intOf jv).toNat)
            case atStart => exact ⟨0, c.count, by omega, rfl, by rw [List.drop_zero]; exact HWk, v0, z0, y0, l2, m2, hS, hB⟩
            case round =>
              clear v0 z0 y0 l2 m2 hS hB HWk
              obtain ⟨j, m, hjM, rfl, HW, v0, z0, y0, l2, m2, hS, hB⟩ := hrel
              rename World => V6
              by_cases hjm : j < M
              · have g0 : (j : Int) < (M : Int) := by omega
                have g1 : (0 : Int) ≤ (j : Int) := by omega
                obtain ⟨h, hh⟩ : ∃ k, Tt[j]? = some k := ⟨_, List.getElem?_eq_getElem (by rw [HM.out]; exact hjm)⟩
                obtain ⟨tb, tq, rfl, _, htl, hr⟩ := m2.at Hp.vals_length j h hh
                have HD : Hid (Walks c S.c s n m (h :: Tt.drop (j + 1)) S.c.count) := by
                  show Walks c S.c s n m (h :: Tt.drop (j + 1)) S.c.count
                  have e9 : Tt.drop j = h :: Tt.drop (j + 1) := by
                    obtain ⟨h1, h2⟩ := List.getElem?_eq_some_iff.1 hh
                    rw [List.drop_eq_getElem_cons h1, h2]
                  rw [← e9]; exact HW.out
                have hb := below_box V6 (.cells h.arr 66)
                have h0 := blk_new V6 h.arr 66
                go_upto_region 15 with (first | refine load_range rfl 66 _ rfl (o := tq + j * 50) h.vals hr rfl Try.underlying66 rfl sizeHp ?_ | refine alloc_zero zeroHp rfl rfl ?_ | refine store_new rfl 66 _ _ rfl (cells := h.arr) rfl rfl sizeHp rfl h.arr_one ?_)
                try simp only [Act.put, List.setIfInBounds_toArray, List.set_cons_zero, List.set_cons_succ]
                generalize V6.alloc (Obj.cells h.arr 66) = V7 at h0 hb ⊢
                have hV6z := z0.lt
                have hV6q := v0.lt
                have hV6y := y0.lt
                replace v0 := v0.below hb
                replace z0 := z0.below hb
                replace y0 := y0.below hb
                replace l2 := l2.below hb
                replace m2 := m2.below hb
                replace hS := hS.below hb
                replace hB := hB.trans (hb.mono hB.size)
                clear hb hr HW
                generalize V6.heap.size = p at h0 htl hV6z hV6q hV6y ⊢
                have HRest : Hid (Walks c S.c s n (nxH h m) (Tt.drop (j + 1)) S.c.count) := HD.out.2
                rcases HD.out.1 with hok | ⟨hv, i8, hi8, hfr, hrd⟩
                · have HOk : Hid (h.view = true ∧ c.conf.lt h.conf ∧ h.mem s = n ∧ h.conf = S.c.conf ∧ h.mem = S.c.mem) := hok
                  clear hok HD
                  have c1 : V7.cell? ⟨p, 0, none⟩ = some (.bool true) := (h0.cell 0 _ h.get_view).trans (by rw [HOk.out.1])
                  obtain ⟨m', hm'⟩ : ∃ m', noMb = m' := ⟨_, rfl⟩
                  have HW' : Hid (Walks c S.c s n m' (Tt.drop (j + 1)) S.c.count) := by
                    show Walks c S.c s n m' (Tt.drop (j + 1)) S.c.count
                    have h9 := HRest.out
                    have : nxH h m = noMb := by rw [nxH, HOk.out.1, if_pos rfl]
                    rw [this] at h9
                    rw [← hm']; exact h9
                  go_upto_region 17 with (first | (refine build_as rfl 29 #[] rfl (C := mbc noMb) ?_ ?_; kernel_rfl) | (refine store_part rfl 29 _ _ rfl (off := 0) (cells := mbc noMb) z0 rfl rfl sizeCt (Nat.le_refl _) (mbc_one _) ?_; intro w7 z7 k7; rw [mb_all] at z7))
                  try simp only [Act.put]
                  rw [hm'] at z7
                  replace v0 := v0.kp1 k7 (by omega)
                  replace y0 := y0.kp1 k7 (by omega)
                  replace h0 := h0.kp1 k7 (by omega)
                  replace l2 := l2.off k7 (fun p hp => by simp at hp; subst hp; exact holz)
                  replace m2 := m2.off k7 (fun p hp => by simp at hp; subst hp; exact hoz)
                  replace hB := hB.trans (k7.below1 (by omega) hB.size)
                  replace hS := hS0.below hB
                  clear z0 k7 c1 HRest hm'
                  have r4 := rcmp_ok h.conf e.conf
                  have e4 : cmpId h.conf e.conf = 1 := by
                    rw [Hec.out]
                    rcases cmpId_cases h.conf c.conf with ⟨h', _⟩ | ⟨_, h'⟩ | ⟨h', _⟩
                    · exact absurd h' (Idn.lt_asymm HOk.out.2.1)
                    · exact h'
                    · have hl9 := HOk.out.2.1; rw [h'] at hl9; exact absurd hl9 (Idn.lt_irrefl _)
                  rw [e4] at r4
                  clear e4
                  go_wp2_with (first | refine load_part rfl 27 _ rfl (o := 39) h0 rfl h.conf.vals h.p_conf Try.underlying27 rfl sizeIdn ?_ | refine load_part rfl 27 _ rfl (o := 20) v0 rfl e.conf.vals e.p_conf Try.underlying27 rfl sizeIdn ?_)
                  refine (r4 _).mono ?_
                  rintro r w8 ⟨rfl, hb⟩
                  replace v0 := v0.below hb
                  replace z7 := z7.below hb
                  replace y0 := y0.below hb
                  replace l2 := l2.below hb
                  replace m2 := m2.below hb
                  replace hS := hS.below hb
                  replace h0 := h0.below hb
                  replace hB := hB.trans (hb.mono hB.size)
                  clear hb r4
                  have c2 := h0.cell (42 + s) _ (h.get_mem s hs)
                  rw [HOk.out.2.2.1] at c2
                  have kI : ∀ w, (binOp .neq 27 (.agg h.conf.vals.toArray) (.agg d.conf.vals.toArray)).run Try.prog w = .ok (.bool false) w := neqIdn _ _ true (by rw [HOk.out.2.2.2.1, d1.out.2.1]; exact Idn.same_self _)
                  have kM : ∀ w, (binOp .neq 28 (.agg (row8 h.mem).toArray) (.agg (row8 d.mem).toArray)).run Try.prog w = .ok (.bool false) w := neqMb _ _ true (by rw [HOk.out.2.2.2.2, d1.out.2.2.1]; exact mbSame_self _)
                  clear HOk
                  go_wp2_with (first | refine load_wpart rfl 27 _ rfl (o := 39) h0 rfl h.conf.vals h.p_conf Try.underlying27 rfl sizeIdn ?_ | refine load_wpart rfl 27 _ rfl (o := 20) y0 rfl d.conf.vals d.p_conf Try.underlying27 rfl sizeIdn ?_ | refine load_wpart rfl 28 _ rfl (o := 42) h0 rfl (row8 h.mem) h.p_mem Try.underlying28 rfl sizeMb ?_ | refine load_wpart rfl 28 _ rfl (o := 23) y0 rfl (row8 d.mem) d.p_mem Try.underlying28 rfl sizeMb ?_)
                  exact ⟨⟨j + 1, m', by omega, by go_num, HW', v0, z7, y0, l2, m2, hS, hB⟩, by simp [intOf]; omega⟩
                · have HOf : Hid (h.view = false ∧ h.k.fr = (i8 : Int) ∧ h.k.rd = m i8 + 1) := ⟨hv, hfr, hrd⟩
                  clear hv hfr hrd HD
                  have c1 : V7.cell? ⟨p, 0, none⟩ = some (.bool false) := (h0.cell 0 _ h.get_view).trans (by rw [HOf.out.1])
                  have c2 : V7.cell? ⟨p, 1, none⟩ = some (.int .i64 (i8 : Int)) := (h0.cell 1 _ h.get_fr).trans (by rw [HOf.out.2.1])
                  have c3 := z0.cell i8 _ (mbc_get m i8 hi8)
                  obtain ⟨vv, hvv⟩ : ∃ v, m i8 + 1 = v := ⟨_, rfl⟩
                  have hvl2 : vv < 4294967296 := by rw [← hvv, ← HOf.out.2.2]; exact h.k.lt
                  have hwr : IntKind.u32.wrap ((m i8 : Int) + 1) = (vv : Int) := by rw [IntKind.wrap_u32]; omega
                  have i80 : (0 : Int) ≤ (i8 : Int) := by omega
                  have i81 : (i8 : Int) < 8 := by omega
                  have i82 : ¬ (i8 : Int) < 0 := by omega
                  have i83 : ¬ (7 : Int) < (i8 : Int) := by omega
                  obtain ⟨m', hm'⟩ : ∃ m', put8 m i8 vv = m' := ⟨_, rfl⟩
                  have HW' : Hid (Walks c S.c s n m' (Tt.drop (j + 1)) S.c.count) := by
                    show Walks c S.c s n m' (Tt.drop (j + 1)) S.c.count
                    have : nxH h m = m' := by
                      rw [nxH, HOf.out.1, if_neg (by simp), HOf.out.2.1, Int.toNat_natCast, hvv, hm']
                    have h9 := HRest.out
                    rw [this] at h9
                    exact h9
                  go_upto_region 22 with (refine store_one rfl 22 _ _ rfl (off := i8) (.int .u32 (vv : Int)) z0 rfl rfl rfl rfl sizeU32 (by rw [mbc_size]; omega) ?_; intro w7 z7 k7; rw [mbc_put _ i8 vv hi8] at z7)
                  try simp only [Act.put]
                  rw [hm'] at z7
                  have hm8 : m' i8 = vv := by rw [← hm']; exact put8_at _ _ _
                  replace v0 := v0.kp1 k7 (by omega)
                  replace y0 := y0.kp1 k7 (by omega)
                  replace h0 := h0.kp1 k7 (by omega)
                  replace l2 := l2.off k7 (fun p hp => by simp at hp; subst hp; exact holz)
                  replace m2 := m2.off k7 (fun p hp => by simp at hp; subst hp; exact hoz)
                  replace hB := hB.trans (k7.below1 (by omega) hB.size)
                  replace hS := hS0.below hB
                  clear z0 k7 c1 c2 c3 HRest hm'
                  have c2 : w7.cell? ⟨p, 1, none⟩ = some (.int .i64 (i8 : Int)) := (h0.cell 1 _ h.get_fr).trans (by rw [HOf.out.2.1])
                  have c4 : w7.cell? ⟨p, 2, none⟩ = some (.int .u32 (vv : Int)) := (h0.cell 2 _ h.get_rd).trans (by rw [HOf.out.2.2, hvv])
                  have c3 : w7.cell? ⟨z, i8, none⟩ = some (.int .u32 (vv : Int)) := (z7.cell i8 _ (mbc_get m' i8 hi8)).trans (by rw [hm8])
                  have gv : ((vv : Int) != (vv : Int)) = false := by simp
                  have r2' := cell_regrown c2
                  have r3' := cell_regrown c3
                  have r4' := cell_regrown c4
                  refine wp_region_quiet_below (by kernel_rfl) (by kernel_rfl) ?_
                  repeat (go_big_quiet_step (fail))
                  refine wpQuiet_nil ?_
                  intro _ hw'
                  obtain ⟨⟨dq, osq⟩, hw''⟩ := hw'
                  have hb := below_regrown w7 dq osq
                  subst hw''
                  generalize grow (redrawn w7 dq) osq = W8 at hb ⊢
                  replace v0 := v0.below hb
                  replace z7 := z7.below hb
                  replace y0 := y0.below hb
                  replace l2 := l2.below hb
                  replace m2 := m2.below hb
                  replace hS := hS.below hb
                  replace hB := hB.trans (hb.mono hB.size)
                  clear hb c2 c3 c4 r2' r3' r4'
                  clear HOf
                  go_wp2_with fail
                  exact ⟨⟨j + 1, m', by omega, by go_num, HW', v0, z7, y0, l2, m2, hS, hB⟩, by simp [intOf]; omega⟩
              · have g0 : ¬ (j : Int) < (M : Int) := by omega
                obtain rfl : j = M := by omega
                have hmc : m = S.c.count := by
                  have := HW.out
                  rw [List.drop_eq_nil_of_le (by rw [HM.out]; omega)] at this
                  exact this
                rw [hmc] at z0
                clear HW hmc m2
                have hqy : q ≠ y := by omega
                go_upto_region 7 with (first | refine load_blk rfl 35 _ rfl y0 rfl Try.underlying35 rfl sizeCo ?_ | (refine store_part rfl 35 _ _ rfl (off := 0) (cells := coc d) v0 rfl rfl sizeCo (Nat.le_refl _) (coc_one _) ?_; intro w7 b7 k7; rw [Co.all] at b7))
                try simp only [Act.put]
                replace z0 := z0.kp1 k7 (by omega)
                replace l2 := l2.off k7 (fun p hp => by simp at hp; subst hp; exact holq)
                replace hB := hB.trans (k7.below1 (by omega) hB.size)
                rw [← hd.out] at b7
                clear v0 y0 k7 hd hS
                go_wp2_with fail
                exact ⟨⟨i + 1, S.c, S.L, a2, k2, by omega, by omega, by go_num, HJ, b7, z0, l2.mono (Nat.zero_le _), hB⟩, by simp [intOf]; omega⟩
        · have j2 : ¬ (i : Int) < 100 := by omega
          have kC : ∀ w, (binOp .eql 29 (.agg (row8 c.count).toArray) (.agg (mbc c.count))).run Try.prog w = .ok (.bool true) w := eqlCt c.count c.count true (mbSame_self _)
          have ev0 : (coc (c.kp a K.length k)).extract 31 (31 + (row8 c.count).length) = (coc (c.kp a K.length k)).extract 31 (31 + (row8 c.count).length) := rfl
          clear lk HI ev0
          go_wp2_with (first | refine load_part rfl 29 _ rfl (o := 31) v0 rfl (row8 c.count) ((c.kp a K.length k).p_count) Try.underlying29 rfl sizeCt ?_ | refine load_blk rfl 29 _ rfl z0 rfl Try.underlying29 rfl sizeCt ?_)
          go_ret
          exact ⟨rfl, hB⟩
      · have j0 : ¬ (i : Int) < (N : Int) := by omega
        have kC : ∀ w, (binOp .eql 29 (.agg (row8 c.count).toArray) (.agg (mbc c.count))).run Try.prog w = .ok (.bool true) w := eqlCt c.count c.count true (mbSame_self _)
        have ev0 : (coc (c.kp a K.length k)).extract 31 (31 + (row8 c.count).length) = (coc (c.kp a K.length k)).extract 31 (31 + (row8 c.count).length) := rfl
        clear lk HI ev0
        go_wp2_with (first | refine load_part rfl 29 _ rfl (o := 31) v0 rfl (row8 c.count) ((c.kp a K.length k).p_count) Try.underlying29 rfl sizeCt ?_ | refine load_blk rfl 29 _ rfl z0 rfl Try.underlying29 rfl sizeCt ?_)
        go_ret
        exact ⟨rfl, hB⟩

set_option maxRecDepth 100000 in
theorem lifted (os : Go.Os) (started : os.Started) (H : Type) (enc : TypeId × Value → H) :
    ReturnsInHanded {} Try.checked os 5 .any (Rows.coreViewsSpec.pre6 enc Try.prog Try.f5 Rows.coreViewsRow.domain false) (Rows.coreViewsSpec.post enc Try.prog Try.f5 false true false false) := by
  refine returnsInHanded_of_change_sized (C := Try.checked) own started (by kernel_rfl) Try.func5
    (ChangeSpec.witness6 (enc := enc) (C := Try.checked) false ⟨#[], #[.int .i64 0, .int .u32 0, .slice none 0 0], []⟩ 8 (by kernel_rfl) (by kernel_rfl) (by kernel_rfl) (by kernel_rfl)) ?_
  intro W base args ds gs before hval0 hW hcnd hsz0 _
  have hval : ∀ (j : Nat) t v, Try.f5.params[j]? = some t → args[j]? = some v → Value.okWide Try.prog W .any base t v := hval0
  have hsz : (DataW.weightsEach Try.prog (Try.f5.params.toList ++ Rows.coreViewsSpec.plain.varTypes Try.prog) (ds ++ gs)).all (· ≤ reachBytes) = true := hsz0
  have hW' := hW
  obtain ⟨p, q, hA0, hV, rfl, hfz, hnd⟩ := hW
  have hA : DataW.TrodAll enc Try.prog W 0 (fun _ => true) true Try.f5.params.toList args.toList ds p := hA0
  rw [Try.params5] at hA hval hsz

  obtain ⟨v0, vs0, d0, ds0, p0, q0, hargs, rfl, rfl, h0, r0⟩ := trodAll_cons hA
  obtain ⟨v1, vs1, d1, ds1, p1, q1, rfl, rfl, rfl, h1, r1⟩ := trodAll_cons r0
  obtain ⟨v2, vs2, d2, ds2, p2, q2, rfl, rfl, rfl, h2, r2⟩ := trodAll_cons r1
  obtain ⟨rfl, rfl, rfl⟩ := trodAll_nil r2
  obtain rfl : args = #[v0, v1, v2] := by cases args; simp_all
  obtain ⟨rfl, rfl⟩ := trodVars_none hV
  obtain ⟨a0, rfl, rfl, rfl, w0⟩ := open_int Try.underlying3 (hval 0 3 v0 rfl rfl) h0
  obtain ⟨a1, rfl, rfl, rfl, w1⟩ := open_int Try.underlying22 (hval 1 22 v1 rfl rfl) h1
  obtain ⟨la2, L2, lc2, rfl, lm2, hS2⟩ := open_evs (okWide_slice Try.underlying57 (hval 2 57 v2 rfl rfl)) h2
  have hA2 := hA0
  clear hA0 hval0 hsz0
  simp only [List.append_nil] at hW'
  refine (walk a0 w0 a1 w1 la2 L2 lc2 lm2 W hS2).mono fun e W' ⟨he, bel⟩ => ?_
  subst he
  exact ⟨_, rfl, _, _, _, [], _, [], hW', trodAll_mk1 (shut_bool Try.underlying4 _), (stays_all laidOut bel (by kernel_rfl) hA2), rfl, bel.frame _, fun h => by cases h⟩

theorem over : Rows.coreViewsRow.holds Try.pinned (OpenSpec.ofChange Rows.coreViewsSpec) :=
  OpenClaim.holds_of_wide 5 Try.f5 rfl rfl rfl rfl rfl rfl rfl ⟨rfl, rfl, rfl, rfl, rfl⟩ rfl rfl rfl rfl rfl (by kernel_rfl) Try.func5 (by kernel_rfl)
    (of_decide_eq_true (by kernel_rfl)) (by unfold Func.isWrapper; first | (rw [if_pos (by decide +kernel)]; kernel_rfl) | (rw [if_neg (by decide +kernel)]; exact ⟨rfl, rfl⟩))
    (fun os started H enc _ => lifted os started H enc)

end Go.Proofs.Ythgmecgknhphmaa.coreViews
namespace Go.Proofs.Ythgmecgknhphmaa

theorem coreViews_holds : Rows.CoreViewsSaid := coreViews.over
#print axioms coreViews_holds

end Go.Proofs.Ythgmecgknhphmaa
