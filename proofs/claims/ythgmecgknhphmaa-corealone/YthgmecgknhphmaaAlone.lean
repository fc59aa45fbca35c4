/-
  A core that hears nobody is alone: it is settled, and sends a frame at each tick, of the next round, as it was given: the law CoreAlone returns true for every input.
  No condition beyond the form's own.
-/
import Derived.Test.YthgmecgknhphmaaRows
import Derived.Test.YthgmecgknhphmaaCeX
import Derived.Test.YthgmecgknhphmaaCeAl
import Derived.Test.YthgmecgknhphmaaCeZ
import Derived.WalkKit
import Derived.ProofKit
import Derived.OpenShut
import Derived.ShutString
import Derived.SizedLaws
import Derived.ChangeOld
import Derived.Below
namespace Go.Proofs.Ythgmecgknhphmaa.coreAlone
open Go.Sort Go.ChangeShapes Go.WideShapes Go.ChangeAt Go.RowKit
open Go.ChangeMaps (open_string shut_string)
set_option linter.unusedVariables false
set_option maxRecDepth 10000

theorem own : ownKnob Try.prog.godebug = none := by kernel_rfl
theorem length_bytes (s : ByteArray) : s.data.toList.length = s.size := by rw [Array.length_toList]; rfl

theorem u32_nat (k : Nat) (h : k < 201) : IntKind.u32.wrap ((k : Int) + 1) = ((k + 1 : Nat) : Int) := by rw [IntKind.wrap_u32]; omega
def Aw (V : World) (S : Sg) (bd : Bool) (p10 p11 p12 : Value) (w' : World) : Prop :=
  ∃ y a2 k2 ta tk, p10 = .pointer (some ⟨y, 0, none⟩) ∧ p11 = .bool bd ∧ p12 = .slice ta S.t.length tk ∧ V.heap.size ≤ y ∧ Blk y (coc (S.c.kp a2 S.L.length k2)) 35 w' ∧ Li Kt.vals V.heap.size a2 S.L w' ∧ Li Hp.vals V.heap.size ta S.t w' ∧ Off a2 S.L y ∧ Off ta S.t y ∧ Below V.heap.size V w'
theorem range_hp {b o : Nat} {x : Kt} {w : World} (h : w.rangeAt b (o + 0 * 50) (takeH x).vals) : w.rangeAt b (o + 3) (frv x.f) := fun j v hv => by
  have hj : j < 36 := by rw [← frv_length x.f]; exact (List.getElem?_eq_some_iff.1 hv).1
  have := h (3 + j) v (by
    show (Value.bool false :: ((Value.int .i64 x.fr :: Value.int .u32 (x.rd : Int) :: frv x.f) ++ _))[3 + j]? = some v
    rw [show 3 + j = j + 1 + 1 + 1 by omega, List.getElem?_cons_succ, List.cons_append, List.getElem?_cons_succ, List.cons_append, List.getElem?_cons_succ, List.getElem?_append_left (by rw [frv_length]; exact hj)]
    exact hv)
  rw [show o + 0 * 50 + (3 + j) = o + 3 + j by omega] at this
  exact this

set_option maxHeartbeats 16000000 in
theorem walk (sI : Int) (_ws : (Lit.int .i64 sI).wf = true) (n0 : Int) (wn : (Lit.int .u32 n0).wf = true) (la : Option Addr) (L : List (Nat → En)) (lc : Nat) (lm : L.length ≤ maxLen) (w : World) (hS0 : Li frv 0 la L w) :
    Calls Try.prog 7 #[.int .i64 sI, .int .u32 n0, .slice la L.length lc] w fun e w' => e = .returned (.bool true) ∧ Below w.heap.size w w' := by
  obtain ⟨n, rfl, hn⟩ := u32_of n0 wn
  have pS := start_ok sI n 5
  obtain ⟨Q, hQ⟩ : ∃ Q, startB sI n 5 = Q := ⟨_, rfl⟩
  obtain ⟨C0, hC0⟩ : ∃ c, Hid (startC sI n 5 = c) := ⟨_, rfl⟩
  rw [hQ, hC0.out] at pS
  obtain ⟨N, hN⟩ : ∃ N, L.length = N := ⟨_, rfl⟩
  simp only [maxLen] at lm
  rw [hN] at lm ⊢
  have HN : Hid (L.length = N) := hN
  clear hN
  go_enter Try.func7, Try.ntmps7
  go_wp2_with fail
  refine (pS _).mono ?_
  rintro r w0 ⟨rfl, hB⟩
  clear pS
  have hq0 := hB.size
  have hb := below_box w0 (.cells (coc C0) 35)
  have v0 := blk_new w0 (coc C0) 35
  go_upto_region 2 with (first | refine alloc_zero zeroCo rfl rfl ?_ | refine store_new rfl 35 _ _ rfl (cells := coc C0) rfl rfl sizeCo rfl (coc_one _) ?_)
  try simp only [Act.put, List.setIfInBounds_toArray, List.set_cons_zero, List.set_cons_succ]
  generalize w0.alloc (Obj.cells (coc C0) 35) = W0 at v0 hb ⊢
  replace hB := hB.trans (hb.mono hB.size)
  clear hb 
  generalize w0.heap.size = q at v0 hq0 ⊢
  go_wp2_with fail
  refine (fixed_ok _).mono ?_
  rintro r w1 ⟨rfl, hb⟩
  replace v0 := v0.below hb
  replace hB := hB.trans (hb.mono hB.size)
  clear hb 
  cases Q with
  | false =>
    clear v0 hC0
    go_wp2_with fail
    refine (fixed_ok _).mono ?_
    rintro r w9 ⟨rfl, hb⟩
    replace hB := hB.trans (hb.mono hB.size)
    go_wp2_with fail
    go_ret
    exact ⟨rfl, hB⟩
  | true =>
    have hQ' := of_decide_eq_true hQ
    obtain ⟨s, rfl⟩ : ∃ s : Nat, sI = (s : Int) := ⟨sI.toNat, by omega⟩
    have hs : s < 8 := by omega
    have hn0 : n ≠ 0 := hQ'.2.2.1
    have HA : Hid (Al s n 0 noFr C0 []) := by show Al s n 0 noFr C0 []; rw [← hC0.out]; exact al_start s n hs 5 noFr hQ
    have HF : Hid C0.fit := by show C0.fit; rw [← hC0.out]; exact fit_start hn 5 hQ
    have hz : Hid (C0.ka = none ∧ C0.kn = 0 ∧ C0.kc = 0) := by show C0.ka = none ∧ C0.kn = 0 ∧ C0.kc = 0; rw [← hC0.out, startC, hQ, if_pos rfl]; exact ⟨rfl, rfl, rfl⟩
    have v1 : Blk q (coc (C0.kp none ([] : List Kt).length 0)) 35 w1 := by
      have e : C0.kp none ([] : List Kt).length 0 = C0 := by
        have h := kp_self C0 0 hz.out.2.1
        rw [hz.out.1, hz.out.2.2] at h
        exact h
      rw [e]; exact v0
    clear v0 hC0 hz hQ hQ' wn
    go_upto_region 5 with fail
    go_loopw [9] (fun iv wr => ∃ (i : Nat) (c : Co) (K : List Kt) (a : Option Addr) (k : Nat) (fp : Nat → En), i ≤ N ∧ i ≤ 200 ∧ iv = .int .i64 i ∧ Hid (Al s n i fp c K ∧ c.fit ∧ K.length ≤ i ∧ (0 < i → L[i - 1]? = some fp)) ∧ Blk q (coc (c.kp a K.length k)) 35 wr ∧ Li Kt.vals 0 a K wr ∧ Off a K q ∧ Below w.heap.size w wr) (fun iv _ => 1000 - (intOf iv).toNat)
    case atStart => exact ⟨0, C0, [], none, 0, noFr, by omega, by omega, rfl, ⟨HA.out, HF.out, by simp, fun h => absurd h (Nat.lt_irrefl _)⟩, v1, Li.nil _ _ _, Off.nil _ _, hB⟩
    case round =>
      clear v1 hB HA HF
      obtain ⟨i, c, K, a, k, fp, hiN, hi2, rfl, HI, v0, lk, hO, hB⟩ := hrel
      rename World => V
      by_cases hjn : i < N
      · have j0 : (i : Int) < (N : Int) := by omega
        by_cases hj2 : i < 200
        · have j2 : (i : Int) < 200 := by omega
          have j1 : (0 : Int) ≤ (i : Int) := by omega
          obtain ⟨f, hk⟩ : ∃ k, L[i]? = some k := ⟨_, List.getElem?_eq_getElem (by rw [HN.out]; exact hjn)⟩
          have hS : Li frv 0 la L V := hS0.below hB
          obtain ⟨b, o, rfl, _, hbl, _⟩ := hS.at frv_length i f hk
          obtain ⟨hAl, hfit, hlen, hlast⟩ := HI.out
          have hx : i + 1 < 4294967296 := by omega
          obtain ⟨at1, at2, at3, at4, aw1, aw2, aw3, aw4, aw5⟩ := al_tick hAl hs hn0 (by omega) f hx
          have pt := fun u h => ctick_kp c K f s hs hAl.self hfit a k (by omega) u h
          have hfit2 := fit_tick hfit s hs hAl.self K f
          have hlen2 := (tickS_len c K f).1
          obtain ⟨S, hSS⟩ : ∃ S, tickS c K f = S := ⟨_, rfl⟩
          rw [at1, hSS] at pt
          rw [hSS] at at2 at3 at4 aw1 aw2 aw3 aw4 aw5 hfit2 hlen2
          obtain ⟨x, hxx⟩ : ∃ x, Kt.mk (s : Int) (i + 1) f hx = x := ⟨_, rfl⟩
          have x1 : x.fr = (s : Int) := by rw [← hxx]
          have x2 : x.rd = i + 1 := by rw [← hxx]
          have x3 : x.f = f := by rw [← hxx]
          rw [hxx] at at2
          obtain ⟨d, hd⟩ : ∃ d, Hid (c.kp a K.length k = d) := ⟨_, rfl⟩
          rw [hd.out] at v0 pt
          have HJ : Hid (Al s n (i + 1) f S.c S.L ∧ S.c.fit ∧ S.L.length ≤ i + 1) := ⟨at4, hfit2, by omega⟩
          have Ha2 : Hid (S.t = [takeH x]) := at2
          have ppk := fun a2 k2 u h => cpack_kp S.c S.L s hs at4.self hfit2 a2 k2 (by omega) u h
          have pgg := fun a2 k2 => gathers_ok (S.c.kp a2 S.L.length k2)
          have egg : ∀ a2 k2, gathB (S.c.kp a2 S.L.length k2) = false := fun _ _ => at3
          obtain ⟨pw, hpw⟩ : ∃ p, packW S.c S.L = p := ⟨_, rfl⟩
          rw [hpw] at ppk aw1 aw2 aw3 aw4 aw5
          have hw1 : Hid (pw.f0 = f) := aw1
          have hw2 : pw.rd = i + 1 := aw2
          have hw3 : Hid (0 < i → pw.f1 = fp) := aw3
          have hw4 : pw.fr = s := aw4
          have hw5 : pw.inc = n := aw5
          clear at1 at2 at3 at4 aw1 aw2 aw3 aw4 aw5 hfit2 hlen2 hAl hfit hSS hxx hpw hlen HI hd
          go_upto_region 7 with fail
          have hvl := v0.lt
          go_cut [10, 11, 12] from 37 to 46 (fun p10 p11 p12 wx => Aw V S true p10 p11 p12 wx)
          case first =>
            clear hw1 hw2 hw3 hw4 hw5 x1 x2 x3 ppk pgg egg HJ Ha2
            refine wp_region_held_drew (S := fun w' => Below V.heap.size V w') (by kernel_rfl) (Below.refl _ _).drew (fun hHeld => ?_)
            refine' wpAnyH_take (i := 0) (v := _) rfl (by kernel_rfl) (by kernel_rfl) (by kernel_rfl) (fun _ _ _ h => h) (yieldsIf_load_mid (by rfl) _ _ rfl q 0 rfl (col d) _ ?hS1 Try.underlying35 rfl sizeCo) hHeld ?rest1
            case hS1 => exact fun w h => (v0.below h).whole
            try simp only [List.getElem_toArray]
            try simp only [List.getElem_cons_succ]
            try simp only [List.getElem_cons_zero]
            try simp only [Act.put]
            try simp only [List.setIfInBounds_toArray]
            try simp only [List.set_cons_succ]
            try simp only [List.set_cons_zero]
            refine wpAnyH_take (i := 1) (v := ?v2) rfl (by kernel_rfl) (by kernel_rfl) (by kernel_rfl) (fun _ _ _ h => h) (Or.inl ⟨by rfl, ?hy2⟩) hHeld ?rest2
            case hy2 => (intro w hSw; clear hSw; go_simp; try with_reducible rfl)
            try simp only [List.getElem_toArray]
            try simp only [List.getElem_cons_succ]
            try simp only [List.getElem_cons_zero]
            try simp only [Act.put]
            try simp only [List.setIfInBounds_toArray]
            try simp only [List.set_cons_succ]
            try simp only [List.set_cons_zero]
            refine wpAnyH_take (i := 2) (v := ?v3) rfl (by kernel_rfl) (by kernel_rfl) (by kernel_rfl) (fun _ _ _ h => h) (Or.inl ⟨by rfl, ?hy3⟩) hHeld ?rest3
            case hy3 => (intro w hSw; clear hSw; go_simp; try with_reducible rfl)
            try simp only [List.getElem_toArray]
            try simp only [List.getElem_cons_succ]
            try simp only [List.getElem_cons_zero]
            try simp only [Act.put]
            try simp only [List.setIfInBounds_toArray]
            try simp only [List.set_cons_succ]
            try simp only [List.set_cons_zero]
            refine wpAnyH_take (i := 3) (v := ?v4) rfl (by kernel_rfl) (by kernel_rfl) (by kernel_rfl) (fun _ _ _ h => h) (Or.inl ⟨by rfl, ?hy4⟩) hHeld ?rest4
            case hy4 => (intro w hSw; clear hSw; go_simp; try with_reducible rfl)
            try simp only [List.getElem_toArray]
            try simp only [List.getElem_cons_succ]
            try simp only [List.getElem_cons_zero]
            try simp only [Act.put]
            try simp only [List.setIfInBounds_toArray]
            try simp only [List.set_cons_succ]
            try simp only [List.set_cons_zero]
            refine' wpAnyH_take (i := 4) (v := _) rfl (by kernel_rfl) (by kernel_rfl) (by kernel_rfl) (fun _ _ _ h => h) (yieldsIf_load_mid (by rfl) _ _ rfl b (o + i * 36) rfl (frv f) _ ?hS5 Try.underlying41 rfl sizeFr) hHeld ?rest5
            case hS5 => exact fun w h => (hS.below h).rng frv_length i f hk
            try simp only [List.getElem_toArray]
            try simp only [List.getElem_cons_succ]
            try simp only [List.getElem_cons_zero]
            try simp only [Act.put]
            try simp only [List.setIfInBounds_toArray]
            try simp only [List.set_cons_succ]
            try simp only [List.set_cons_zero]
            refine wpAnyH_ready (rs := [5, 10]) (by kernel_rfl) (by simp) ?_
            refine AllReadyH.cons rfl (fun K hK => ?_) (AllReadyH.cons rfl (fun K hK => ?_) (AllReadyH.nil))
            · have hcz := hHeld.size
              go_simp
              go_wp2_with (refine (pt _ (lk.below hHeld)).mono ?_; rintro r u1 ⟨⟨a2, k2, ta, tk, rfl, l2, m2⟩, hb⟩)
              refine hK.out _ _ (hHeld.below hb) (fun hHeld => ?_)
              clear hK K hb
              refine wpAnyH_take (i := 6) (v := ?v6) rfl (by kernel_rfl) (by kernel_rfl) (by kernel_rfl) (fun _ _ _ h => h) (Or.inl ⟨by rfl, ?hy6⟩) hHeld ?rest6
              case hy6 => (intro w hSw; clear hSw; go_simp; try with_reducible rfl)
              try simp only [List.getElem_toArray]
              try simp only [List.getElem_cons_succ]
              try simp only [List.getElem_cons_zero]
              try simp only [Act.put]
              try simp only [List.setIfInBounds_toArray]
              try simp only [List.set_cons_succ]
              try simp only [List.set_cons_zero]
              refine wpAnyH_take (i := 7) (v := ?v7) rfl (by kernel_rfl) (by kernel_rfl) (by kernel_rfl) (fun _ _ _ h => h) (Or.inl ⟨by rfl, ?hy7⟩) hHeld ?rest7
              case hy7 => (intro w hSw; clear hSw; go_simp; try with_reducible rfl)
              try simp only [List.getElem_toArray]
              try simp only [List.getElem_cons_succ]
              try simp only [List.getElem_cons_zero]
              try simp only [Act.put]
              try simp only [List.setIfInBounds_toArray]
              try simp only [List.set_cons_succ]
              try simp only [List.set_cons_zero]
              refine wpAnyH_take (i := 8) (v := ?v8) rfl (by kernel_rfl) (by kernel_rfl) (by kernel_rfl) (fun _ _ _ h => h) (Or.inl ⟨by rfl, ?hy8⟩) hHeld ?rest8
              case hy8 => (intro w hSw; clear hSw; go_simp; try with_reducible rfl)
              try simp only [List.getElem_toArray]
              try simp only [List.getElem_cons_succ]
              try simp only [List.getElem_cons_zero]
              try simp only [Act.put]
              try simp only [List.setIfInBounds_toArray]
              try simp only [List.set_cons_succ]
              try simp only [List.set_cons_zero]
              refine wpAnyH_take (i := 9) (v := ?v9) rfl (by kernel_rfl) (by kernel_rfl) (by kernel_rfl) (fun _ _ _ h => h) (Or.inl ⟨by rfl, ?hy9⟩) hHeld ?rest9
              case hy9 => (intro w hSw; clear hSw; go_simp; try with_reducible rfl)
              try simp only [List.getElem_toArray]
              try simp only [List.getElem_cons_succ]
              try simp only [List.getElem_cons_zero]
              try simp only [Act.put]
              try simp only [List.setIfInBounds_toArray]
              try simp only [List.set_cons_succ]
              try simp only [List.set_cons_zero]
              refine wpAnyH_ready (rs := [10]) (by kernel_rfl) (by simp) ?_
              refine AllReadyH.cons rfl (fun K hK => ?_) (AllReadyH.nil)
              rw [if_pos (by rfl)]
              refine wp_alloc_any zeroCo rfl ?_
              intro yp u2 y0 hb yl yt
              have yg := Nat.le_trans hHeld.size yl
              have ho_l2 := Off.li l2 yp (.inr yl)
              replace l2 := l2.below hb
              have ho_m2 := Off.li m2 yp (.inr yl)
              replace m2 := m2.below hb
              refine hK.out _ _ (hHeld.below hb) (fun hHeld => ?_)
              clear hK K hb yl yt
              try simp only [List.getElem_toArray]
              try simp only [List.getElem_cons_succ]
              try simp only [List.getElem_cons_zero]
              try simp only [Act.put]
              try simp only [List.setIfInBounds_toArray]
              try simp only [List.set_cons_succ]
              try simp only [List.set_cons_zero]
              refine wpAnyH_ready (rs := [11]) (by kernel_rfl) (by simp) ?_
              refine AllReadyH.cons rfl (fun K hK => ?_) (AllReadyH.nil)
              rw [if_pos (by rfl)]
              refine wp_store_all 35 _ _ rfl (cells := (coc (S.c.kp a2 S.L.length k2))) y0 rfl rfl sizeCo rfl (coc_one _) ?_
              intro u3 hn9 hk9
              replace y0 := hn9
              replace l2 := l2.off hk9 (fun q hq => by simp at hq; subst hq; exact ho_l2)
              replace m2 := m2.off hk9 (fun q hq => by simp at hq; subst hq; exact ho_m2)
              refine hK.out _ _ (below_kp hHeld hk9 yg) (fun hHeld => ?_)
              clear hK K hk9 hn9
              try simp only [List.getElem_toArray]
              try simp only [List.getElem_cons_succ]
              try simp only [List.getElem_cons_zero]
              try simp only [Act.put]
              try simp only [List.setIfInBounds_toArray]
              try simp only [List.set_cons_succ]
              try simp only [List.set_cons_zero]
              refine wpAnyH_take (i := 12) (v := ?v10) rfl (by kernel_rfl) (by kernel_rfl) (by kernel_rfl) (fun _ _ _ h => h) (Or.inl ⟨by rfl, ?hy10⟩) hHeld ?rest10
              case hy10 => (intro w hSw; clear hSw; go_simp; try with_reducible rfl)
              try simp only [List.getElem_toArray]
              try simp only [List.getElem_cons_succ]
              try simp only [List.getElem_cons_zero]
              try simp only [Act.put]
              try simp only [List.setIfInBounds_toArray]
              try simp only [List.set_cons_succ]
              try simp only [List.set_cons_zero]
              refine wpAnyH_take (i := 13) (v := ?v11) rfl (by kernel_rfl) (by kernel_rfl) (by kernel_rfl) (fun _ _ _ h => h) (Or.inl ⟨by rfl, ?hy11⟩) hHeld ?rest11
              case hy11 => (intro w hSw; clear hSw; go_simp; try with_reducible rfl)
              try simp only [List.getElem_toArray]
              try simp only [List.getElem_cons_succ]
              try simp only [List.getElem_cons_zero]
              try simp only [Act.put]
              try simp only [List.setIfInBounds_toArray]
              try simp only [List.set_cons_succ]
              try simp only [List.set_cons_zero]
              refine wpAnyH_done (by kernel_rfl) ?_ _
              go_wp2_with fail
              go_meet
              exact ⟨yp, a2, k2, ta, tk, rfl, rfl, rfl, yg, y0, l2.mono (by omega), m2.mono (by omega), ho_l2, ho_m2, hHeld⟩
            · rw [if_pos (by rfl)]
              refine wp_alloc_any zeroCo rfl ?_
              intro yp u4 y0 hb yl yt
              have yg := Nat.le_trans hHeld.size yl
              refine hK.out _ _ (hHeld.below hb) (fun hHeld => ?_)
              clear hK K hb yl
              try simp only [List.getElem_toArray]
              try simp only [List.getElem_cons_succ]
              try simp only [List.getElem_cons_zero]
              try simp only [Act.put]
              try simp only [List.setIfInBounds_toArray]
              try simp only [List.set_cons_succ]
              try simp only [List.set_cons_zero]
              refine wpAnyH_ready (rs := [5]) (by kernel_rfl) (by simp) ?_
              refine AllReadyH.cons rfl (fun K hK => ?_) (AllReadyH.nil)
              have hcz := hHeld.size
              go_simp
              go_wp2_with (refine (pt _ (lk.below hHeld)).mono ?_; rintro r u5 ⟨⟨a2, k2, ta, tk, rfl, l2, m2⟩, hb⟩)
              replace y0 := y0.below hb
              have ho_l2 := Off.li l2 yp (.inl yt)
              have ho_m2 := Off.li m2 yp (.inl yt)
              refine hK.out _ _ (hHeld.below hb) (fun hHeld => ?_)
              clear hK K hb
              refine wpAnyH_take (i := 6) (v := ?v12) rfl (by kernel_rfl) (by kernel_rfl) (by kernel_rfl) (fun _ _ _ h => h) (Or.inl ⟨by rfl, ?hy12⟩) hHeld ?rest12
              case hy12 => (intro w hSw; clear hSw; go_simp; try with_reducible rfl)
              try simp only [List.getElem_toArray]
              try simp only [List.getElem_cons_succ]
              try simp only [List.getElem_cons_zero]
              try simp only [Act.put]
              try simp only [List.setIfInBounds_toArray]
              try simp only [List.set_cons_succ]
              try simp only [List.set_cons_zero]
              refine wpAnyH_take (i := 7) (v := ?v13) rfl (by kernel_rfl) (by kernel_rfl) (by kernel_rfl) (fun _ _ _ h => h) (Or.inl ⟨by rfl, ?hy13⟩) hHeld ?rest13
              case hy13 => (intro w hSw; clear hSw; go_simp; try with_reducible rfl)
              try simp only [List.getElem_toArray]
              try simp only [List.getElem_cons_succ]
              try simp only [List.getElem_cons_zero]
              try simp only [Act.put]
              try simp only [List.setIfInBounds_toArray]
              try simp only [List.set_cons_succ]
              try simp only [List.set_cons_zero]
              refine wpAnyH_take (i := 8) (v := ?v14) rfl (by kernel_rfl) (by kernel_rfl) (by kernel_rfl) (fun _ _ _ h => h) (Or.inl ⟨by rfl, ?hy14⟩) hHeld ?rest14
              case hy14 => (intro w hSw; clear hSw; go_simp; try with_reducible rfl)
              try simp only [List.getElem_toArray]
              try simp only [List.getElem_cons_succ]
              try simp only [List.getElem_cons_zero]
              try simp only [Act.put]
              try simp only [List.setIfInBounds_toArray]
              try simp only [List.set_cons_succ]
              try simp only [List.set_cons_zero]
              refine wpAnyH_take (i := 9) (v := ?v15) rfl (by kernel_rfl) (by kernel_rfl) (by kernel_rfl) (fun _ _ _ h => h) (Or.inl ⟨by rfl, ?hy15⟩) hHeld ?rest15
              case hy15 => (intro w hSw; clear hSw; go_simp; try with_reducible rfl)
              try simp only [List.getElem_toArray]
              try simp only [List.getElem_cons_succ]
              try simp only [List.getElem_cons_zero]
              try simp only [Act.put]
              try simp only [List.setIfInBounds_toArray]
              try simp only [List.set_cons_succ]
              try simp only [List.set_cons_zero]
              refine wpAnyH_ready (rs := [11]) (by kernel_rfl) (by simp) ?_
              refine AllReadyH.cons rfl (fun K hK => ?_) (AllReadyH.nil)
              rw [if_pos (by rfl)]
              refine wp_store_all 35 _ _ rfl (cells := (coc (S.c.kp a2 S.L.length k2))) y0 rfl rfl sizeCo rfl (coc_one _) ?_
              intro u6 hn9 hk9
              replace y0 := hn9
              replace l2 := l2.off hk9 (fun q hq => by simp at hq; subst hq; exact ho_l2)
              replace m2 := m2.off hk9 (fun q hq => by simp at hq; subst hq; exact ho_m2)
              refine hK.out _ _ (below_kp hHeld hk9 yg) (fun hHeld => ?_)
              clear hK K hk9 hn9
              try simp only [List.getElem_toArray]
              try simp only [List.getElem_cons_succ]
              try simp only [List.getElem_cons_zero]
              try simp only [Act.put]
              try simp only [List.setIfInBounds_toArray]
              try simp only [List.set_cons_succ]
              try simp only [List.set_cons_zero]
              refine wpAnyH_take (i := 12) (v := ?v16) rfl (by kernel_rfl) (by kernel_rfl) (by kernel_rfl) (fun _ _ _ h => h) (Or.inl ⟨by rfl, ?hy16⟩) hHeld ?rest16
              case hy16 => (intro w hSw; clear hSw; go_simp; try with_reducible rfl)
              try simp only [List.getElem_toArray]
              try simp only [List.getElem_cons_succ]
              try simp only [List.getElem_cons_zero]
              try simp only [Act.put]
              try simp only [List.setIfInBounds_toArray]
              try simp only [List.set_cons_succ]
              try simp only [List.set_cons_zero]
              refine wpAnyH_take (i := 13) (v := ?v17) rfl (by kernel_rfl) (by kernel_rfl) (by kernel_rfl) (fun _ _ _ h => h) (Or.inl ⟨by rfl, ?hy17⟩) hHeld ?rest17
              case hy17 => (intro w hSw; clear hSw; go_simp; try with_reducible rfl)
              try simp only [List.getElem_toArray]
              try simp only [List.getElem_cons_succ]
              try simp only [List.getElem_cons_zero]
              try simp only [Act.put]
              try simp only [List.setIfInBounds_toArray]
              try simp only [List.set_cons_succ]
              try simp only [List.set_cons_zero]
              refine wpAnyH_done (by kernel_rfl) ?_ _
              go_wp2_with fail
              go_meet
              exact ⟨yp, a2, k2, ta, tk, rfl, rfl, rfl, yg, y0, l2.mono (by omega), m2.mono (by omega), ho_l2, ho_m2, hHeld⟩
          case rest =>
            obtain ⟨y, a2, k2, ta, tk, rfl, rfl, rfl, hyg, y0, l2, m2, ho1, ho2, hb⟩ := hcut
            rename World => V2
            clear pt lk hO
            replace v0 := v0.below hb
            replace hS := hS.below hb
            replace hB := hB.trans (hb.mono hB.size)
            clear hb
            have pk := ppk a2 k2
            have pg := pgg a2 k2
            rw [egg a2 k2] at pg
            clear ppk pgg egg
            rw [Ha2.out] at m2 ho2 ⊢
            obtain ⟨tb, tq, rfl, htv, htl, _⟩ := m2.at Hp.vals_length 0 (takeH x) rfl
            rw [show ([takeH x] : List Hp).length = 1 from rfl]
            obtain ⟨d2, hd2⟩ : ∃ d, Hid (S.c.kp a2 S.L.length k2 = d) := ⟨_, rfl⟩
            rw [hd2.out] at y0 pk pg
            have xq1 : (x.fr != (s : Int)) = false := by rw [x1]; simp
            have xw : IntKind.u32.wrap ((i : Int) + 1) = ((i + 1 : Nat) : Int) := u32_nat i (by omega)
            have xi : IntKind.i64.wrap ((i : Int) + 1) = (i : Int) + 1 := by rw [IntKind.wrap_i64]; omega
            have xq2 : ((x.rd : Int) != ((i + 1 : Nat) : Int)) = false := by rw [x2]; simp
            have kf : ∀ w, (binOp .neq 41 (.agg (frv x.f).toArray) (.agg (frv f).toArray)).run Try.prog w = .ok (.bool false) w := by rw [x3]; exact neqFr f
            go_upto_region 8 with fail
            generalize hVV : V2 = V at *
            clear hVV
            go_cut [95] from 47 to 94 (fun v wx => v = .bool false ∧ Below V.heap.size V wx)
            case first =>
              clear hw1 hw2 hw3 hw4 hw5 pk HJ x3
              refine wp_region_held_drew (S := fun w' => Below V.heap.size V w') (by kernel_rfl) (Below.refl _ _).drew (fun hHeld => ?_)
              refine wpAnyH_take (i := 0) (v := ?v18) rfl (by kernel_rfl) (by kernel_rfl) (by kernel_rfl) (fun _ _ _ h => h) (Or.inl ⟨by rfl, ?hy18⟩) hHeld ?rest18
              case hy18 => (intro w hSw; clear hSw; go_simp; try with_reducible rfl)
              try simp only [List.getElem_toArray]
              try simp only [List.getElem_cons_succ]
              try simp only [List.getElem_cons_zero]
              try simp only [Act.put]
              try simp only [List.setIfInBounds_toArray]
              try simp only [List.set_cons_succ]
              try simp only [List.set_cons_zero]
              refine wpAnyH_take (i := 1) (v := ?v19) rfl (by kernel_rfl) (by kernel_rfl) (by kernel_rfl) (fun _ _ _ h => h) (Or.inl ⟨by rfl, ?hy19⟩) hHeld ?rest19
              case hy19 => (intro w hSw; clear hSw; go_simp; try with_reducible rfl)
              try simp only [List.getElem_toArray]
              try simp only [List.getElem_cons_succ]
              try simp only [List.getElem_cons_zero]
              try simp only [Act.put]
              try simp only [List.setIfInBounds_toArray]
              try simp only [List.set_cons_succ]
              try simp only [List.set_cons_zero]
              refine wpAnyH_take (i := 2) (v := ?v20) rfl (by kernel_rfl) (by kernel_rfl) (by kernel_rfl) (fun _ _ _ h => h) (Or.inl ⟨by rfl, ?hy20⟩) hHeld ?rest20
              case hy20 => (intro w hSw; clear hSw; go_simp; try with_reducible rfl)
              try simp only [List.getElem_toArray]
              try simp only [List.getElem_cons_succ]
              try simp only [List.getElem_cons_zero]
              try simp only [Act.put]
              try simp only [List.setIfInBounds_toArray]
              try simp only [List.set_cons_succ]
              try simp only [List.set_cons_zero]
              refine wpAnyH_take (i := 3) (v := ?v21) rfl (by kernel_rfl) (by kernel_rfl) (by kernel_rfl) (fun _ _ _ h => h) (Or.inl ⟨by rfl, ?hy21⟩) hHeld ?rest21
              case hy21 => (intro w hSw; clear hSw; go_simp; try with_reducible rfl)
              try simp only [List.getElem_toArray]
              try simp only [List.getElem_cons_succ]
              try simp only [List.getElem_cons_zero]
              try simp only [Act.put]
              try simp only [List.setIfInBounds_toArray]
              try simp only [List.set_cons_succ]
              try simp only [List.set_cons_zero]
              refine wpAnyH_take (i := 4) (v := ?v22) rfl (by kernel_rfl) (by kernel_rfl) (by kernel_rfl) (fun _ _ _ h => h) (Or.inl ⟨by rfl, ?hy22⟩) hHeld ?rest22
              case hy22 => (intro w hSw; clear hSw; go_simp; try with_reducible rfl)
              try simp only [List.getElem_toArray]
              try simp only [List.getElem_cons_succ]
              try simp only [List.getElem_cons_zero]
              try simp only [Act.put]
              try simp only [List.setIfInBounds_toArray]
              try simp only [List.set_cons_succ]
              try simp only [List.set_cons_zero]
              refine wpAnyH_take (i := 5) (v := ?v23) rfl (by kernel_rfl) (by kernel_rfl) (by kernel_rfl) (fun _ _ _ h => h) (Or.inl ⟨by rfl, ?hy23⟩) hHeld ?rest23
              case hy23 => (intro w hSw; clear hSw; go_simp; try with_reducible rfl)
              try simp only [List.getElem_toArray]
              try simp only [List.getElem_cons_succ]
              try simp only [List.getElem_cons_zero]
              try simp only [Act.put]
              try simp only [List.setIfInBounds_toArray]
              try simp only [List.set_cons_succ]
              try simp only [List.set_cons_zero]
              refine wpAnyH_take (i := 6) (v := ?v24) rfl (by kernel_rfl) (by kernel_rfl) (by kernel_rfl) (fun _ _ _ h => h) (Or.inl ⟨by rfl, ?hy24⟩) hHeld ?rest24
              case hy24 => (intro w hSw; clear hSw; go_simp; try with_reducible rfl)
              try simp only [List.getElem_toArray]
              try simp only [List.getElem_cons_succ]
              try simp only [List.getElem_cons_zero]
              try simp only [Act.put]
              try simp only [List.setIfInBounds_toArray]
              try simp only [List.set_cons_succ]
              try simp only [List.set_cons_zero]
              refine wpAnyH_take (i := 7) (v := ?v25) rfl (by kernel_rfl) (by kernel_rfl) (by kernel_rfl) (fun _ _ _ h => h) (Or.inl ⟨by rfl, ?hy25⟩) hHeld ?rest25
              case hy25 => (intro w hSw; clear hSw; go_simp; try with_reducible rfl)
              try simp only [List.getElem_toArray]
              try simp only [List.getElem_cons_succ]
              try simp only [List.getElem_cons_zero]
              try simp only [Act.put]
              try simp only [List.setIfInBounds_toArray]
              try simp only [List.set_cons_succ]
              try simp only [List.set_cons_zero]
              refine wpAnyH_take (i := 8) (v := ?v26) rfl (by kernel_rfl) (by kernel_rfl) (by kernel_rfl) (fun _ _ _ h => h) (Or.inl ⟨by rfl, ?hy26⟩) hHeld ?rest26
              case hy26 => (intro w hSw; clear hSw; go_simp; try with_reducible rfl)
              try simp only [List.getElem_toArray]
              try simp only [List.getElem_cons_succ]
              try simp only [List.getElem_cons_zero]
              try simp only [Act.put]
              try simp only [List.setIfInBounds_toArray]
              try simp only [List.set_cons_succ]
              try simp only [List.set_cons_zero]
              refine wpAnyH_take (i := 9) (v := ?v27) rfl (by kernel_rfl) (by kernel_rfl) (by kernel_rfl) (fun _ _ _ h => h) (Or.inl ⟨by rfl, ?hy27⟩) hHeld ?rest27
              case hy27 => (intro w hSw; clear hSw; go_simp; try with_reducible rfl)
              try simp only [List.getElem_toArray]
              try simp only [List.getElem_cons_succ]
              try simp only [List.getElem_cons_zero]
              try simp only [Act.put]
              try simp only [List.setIfInBounds_toArray]
              try simp only [List.set_cons_succ]
              try simp only [List.set_cons_zero]
              refine wpAnyH_take (i := 10) (v := ?v28) rfl (by kernel_rfl) (by kernel_rfl) (by kernel_rfl) (fun _ _ _ h => h) (Or.inl ⟨by rfl, ?hy28⟩) hHeld ?rest28
              case hy28 => (intro w hSw; clear hSw; go_simp; try with_reducible rfl)
              try simp only [List.getElem_toArray]
              try simp only [List.getElem_cons_succ]
              try simp only [List.getElem_cons_zero]
              try simp only [Act.put]
              try simp only [List.setIfInBounds_toArray]
              try simp only [List.set_cons_succ]
              try simp only [List.set_cons_zero]
              refine wpAnyH_take (i := 11) (v := ?v29) rfl (by kernel_rfl) (by kernel_rfl) (by kernel_rfl) (fun _ _ _ h => h) (Or.inl ⟨by rfl, ?hy29⟩) hHeld ?rest29
              case hy29 => (intro w hSw; have hc : w.cell? ⟨tb, tq + 0 * 50 + 0, none⟩ = some (.bool false) := ((m2.below hSw).cel Hp.vals_length 0 (takeH x) rfl 0 _ rfl); simp only [Nat.zero_mul, Nat.add_zero] at hc; clear hSw; go_simp; try with_reducible rfl)
              try simp only [List.getElem_toArray]
              try simp only [List.getElem_cons_succ]
              try simp only [List.getElem_cons_zero]
              try simp only [Act.put]
              try simp only [List.setIfInBounds_toArray]
              try simp only [List.set_cons_succ]
              try simp only [List.set_cons_zero]
              refine wpAnyH_take (i := 12) (v := ?v30) rfl (by kernel_rfl) (by kernel_rfl) (by kernel_rfl) (fun _ _ _ h => h) (Or.inl ⟨by rfl, ?hy30⟩) hHeld ?rest30
              case hy30 => (intro w hSw; clear hSw; go_simp; try with_reducible rfl)
              try simp only [List.getElem_toArray]
              try simp only [List.getElem_cons_succ]
              try simp only [List.getElem_cons_zero]
              try simp only [Act.put]
              try simp only [List.setIfInBounds_toArray]
              try simp only [List.set_cons_succ]
              try simp only [List.set_cons_zero]
              refine wpAnyH_take (i := 13) (v := ?v31) rfl (by kernel_rfl) (by kernel_rfl) (by kernel_rfl) (fun _ _ _ h => h) (Or.inl ⟨by rfl, ?hy31⟩) hHeld ?rest31
              case hy31 => (intro w hSw; clear hSw; go_simp; try with_reducible rfl)
              try simp only [List.getElem_toArray]
              try simp only [List.getElem_cons_succ]
              try simp only [List.getElem_cons_zero]
              try simp only [Act.put]
              try simp only [List.setIfInBounds_toArray]
              try simp only [List.set_cons_succ]
              try simp only [List.set_cons_zero]
              refine wpAnyH_take (i := 14) (v := ?v32) rfl (by kernel_rfl) (by kernel_rfl) (by kernel_rfl) (fun _ _ _ h => h) (Or.inl ⟨by rfl, ?hy32⟩) hHeld ?rest32
              case hy32 => (intro w hSw; clear hSw; go_simp; try with_reducible rfl)
              try simp only [List.getElem_toArray]
              try simp only [List.getElem_cons_succ]
              try simp only [List.getElem_cons_zero]
              try simp only [Act.put]
              try simp only [List.setIfInBounds_toArray]
              try simp only [List.set_cons_succ]
              try simp only [List.set_cons_zero]
              refine wpAnyH_take (i := 15) (v := ?v33) rfl (by kernel_rfl) (by kernel_rfl) (by kernel_rfl) (fun _ _ _ h => h) (Or.inl ⟨by rfl, ?hy33⟩) hHeld ?rest33
              case hy33 => (intro w hSw; clear hSw; go_simp; try with_reducible rfl)
              try simp only [List.getElem_toArray]
              try simp only [List.getElem_cons_succ]
              try simp only [List.getElem_cons_zero]
              try simp only [Act.put]
              try simp only [List.setIfInBounds_toArray]
              try simp only [List.set_cons_succ]
              try simp only [List.set_cons_zero]
              refine wpAnyH_take (i := 16) (v := ?v34) rfl (by kernel_rfl) (by kernel_rfl) (by kernel_rfl) (fun _ _ _ h => h) (Or.inl ⟨by rfl, ?hy34⟩) hHeld ?rest34
              case hy34 => (intro w hSw; clear hSw; go_simp; try with_reducible rfl)
              try simp only [List.getElem_toArray]
              try simp only [List.getElem_cons_succ]
              try simp only [List.getElem_cons_zero]
              try simp only [Act.put]
              try simp only [List.setIfInBounds_toArray]
              try simp only [List.set_cons_succ]
              try simp only [List.set_cons_zero]
              refine wpAnyH_take (i := 17) (v := ?v35) rfl (by kernel_rfl) (by kernel_rfl) (by kernel_rfl) (fun _ _ _ h => h) (Or.inl ⟨by rfl, ?hy35⟩) hHeld ?rest35
              case hy35 => (intro w hSw; clear hSw; go_simp; try with_reducible rfl)
              try simp only [List.getElem_toArray]
              try simp only [List.getElem_cons_succ]
              try simp only [List.getElem_cons_zero]
              try simp only [Act.put]
              try simp only [List.setIfInBounds_toArray]
              try simp only [List.set_cons_succ]
              try simp only [List.set_cons_zero]
              refine wpAnyH_take (i := 18) (v := ?v36) rfl (by kernel_rfl) (by kernel_rfl) (by kernel_rfl) (fun _ _ _ h => h) (Or.inl ⟨by rfl, ?hy36⟩) hHeld ?rest36
              case hy36 => (intro w hSw; have hc : w.cell? ⟨tb, tq + 0 * 50 + 1, none⟩ = some (.int .i64 x.fr) := ((m2.below hSw).cel Hp.vals_length 0 (takeH x) rfl 1 _ rfl); simp only [Nat.zero_mul, Nat.add_zero] at hc; clear hSw; go_simp; try with_reducible rfl)
              try simp only [List.getElem_toArray]
              try simp only [List.getElem_cons_succ]
              try simp only [List.getElem_cons_zero]
              try simp only [Act.put]
              try simp only [List.setIfInBounds_toArray]
              try simp only [List.set_cons_succ]
              try simp only [List.set_cons_zero]
              refine wpAnyH_take (i := 19) (v := ?v37) rfl (by kernel_rfl) (by kernel_rfl) (by kernel_rfl) (fun _ _ _ h => h) (Or.inl ⟨by rfl, ?hy37⟩) hHeld ?rest37
              case hy37 => (intro w hSw; clear hSw; go_simp; try with_reducible rfl)
              try simp only [List.getElem_toArray]
              try simp only [List.getElem_cons_succ]
              try simp only [List.getElem_cons_zero]
              try simp only [Act.put]
              try simp only [List.setIfInBounds_toArray]
              try simp only [List.set_cons_succ]
              try simp only [List.set_cons_zero]
              refine wpAnyH_take (i := 20) (v := ?v38) rfl (by kernel_rfl) (by kernel_rfl) (by kernel_rfl) (fun _ _ _ h => h) (Or.inl ⟨by rfl, ?hy38⟩) hHeld ?rest38
              case hy38 => (intro w hSw; clear hSw; go_simp; try with_reducible rfl)
              try simp only [List.getElem_toArray]
              try simp only [List.getElem_cons_succ]
              try simp only [List.getElem_cons_zero]
              try simp only [Act.put]
              try simp only [List.setIfInBounds_toArray]
              try simp only [List.set_cons_succ]
              try simp only [List.set_cons_zero]
              refine wpAnyH_take (i := 21) (v := ?v39) rfl (by kernel_rfl) (by kernel_rfl) (by kernel_rfl) (fun _ _ _ h => h) (Or.inl ⟨by rfl, ?hy39⟩) hHeld ?rest39
              case hy39 => (intro w hSw; clear hSw; go_simp; try with_reducible rfl)
              try simp only [List.getElem_toArray]
              try simp only [List.getElem_cons_succ]
              try simp only [List.getElem_cons_zero]
              try simp only [Act.put]
              try simp only [List.setIfInBounds_toArray]
              try simp only [List.set_cons_succ]
              try simp only [List.set_cons_zero]
              refine wpAnyH_take (i := 22) (v := ?v40) rfl (by kernel_rfl) (by kernel_rfl) (by kernel_rfl) (fun _ _ _ h => h) (Or.inl ⟨by rfl, ?hy40⟩) hHeld ?rest40
              case hy40 => (intro w hSw; clear hSw; go_simp; try with_reducible rfl)
              try simp only [List.getElem_toArray]
              try simp only [List.getElem_cons_succ]
              try simp only [List.getElem_cons_zero]
              try simp only [Act.put]
              try simp only [List.setIfInBounds_toArray]
              try simp only [List.set_cons_succ]
              try simp only [List.set_cons_zero]
              refine wpAnyH_take (i := 23) (v := ?v41) rfl (by kernel_rfl) (by kernel_rfl) (by kernel_rfl) (fun _ _ _ h => h) (Or.inl ⟨by rfl, ?hy41⟩) hHeld ?rest41
              case hy41 => (intro w hSw; clear hSw; go_simp; try with_reducible rfl)
              try simp only [List.getElem_toArray]
              try simp only [List.getElem_cons_succ]
              try simp only [List.getElem_cons_zero]
              try simp only [Act.put]
              try simp only [List.setIfInBounds_toArray]
              try simp only [List.set_cons_succ]
              try simp only [List.set_cons_zero]
              refine wpAnyH_take (i := 24) (v := ?v42) rfl (by kernel_rfl) (by kernel_rfl) (by kernel_rfl) (fun _ _ _ h => h) (Or.inl ⟨by rfl, ?hy42⟩) hHeld ?rest42
              case hy42 => (intro w hSw; clear hSw; go_simp; try with_reducible rfl)
              try simp only [List.getElem_toArray]
              try simp only [List.getElem_cons_succ]
              try simp only [List.getElem_cons_zero]
              try simp only [Act.put]
              try simp only [List.setIfInBounds_toArray]
              try simp only [List.set_cons_succ]
              try simp only [List.set_cons_zero]
              refine wpAnyH_take (i := 25) (v := ?v43) rfl (by kernel_rfl) (by kernel_rfl) (by kernel_rfl) (fun _ _ _ h => h) (Or.inl ⟨by rfl, ?hy43⟩) hHeld ?rest43
              case hy43 => (intro w hSw; clear hSw; go_simp; try with_reducible rfl)
              try simp only [List.getElem_toArray]
              try simp only [List.getElem_cons_succ]
              try simp only [List.getElem_cons_zero]
              try simp only [Act.put]
              try simp only [List.setIfInBounds_toArray]
              try simp only [List.set_cons_succ]
              try simp only [List.set_cons_zero]
              refine wpAnyH_take (i := 26) (v := ?v44) rfl (by kernel_rfl) (by kernel_rfl) (by kernel_rfl) (fun _ _ _ h => h) (Or.inl ⟨by rfl, ?hy44⟩) hHeld ?rest44
              case hy44 => (intro w hSw; clear hSw; go_simp; try with_reducible rfl)
              try simp only [List.getElem_toArray]
              try simp only [List.getElem_cons_succ]
              try simp only [List.getElem_cons_zero]
              try simp only [Act.put]
              try simp only [List.setIfInBounds_toArray]
              try simp only [List.set_cons_succ]
              try simp only [List.set_cons_zero]
              refine wpAnyH_take (i := 27) (v := ?v45) rfl (by kernel_rfl) (by kernel_rfl) (by kernel_rfl) (fun _ _ _ h => h) (Or.inl ⟨by rfl, ?hy45⟩) hHeld ?rest45
              case hy45 => (intro w hSw; have hc : w.cell? ⟨tb, tq + 0 * 50 + 2, none⟩ = some (.int .u32 (x.rd : Int)) := ((m2.below hSw).cel Hp.vals_length 0 (takeH x) rfl 2 _ rfl); simp only [Nat.zero_mul, Nat.add_zero] at hc; clear hSw; go_simp; try with_reducible rfl)
              try simp only [List.getElem_toArray]
              try simp only [List.getElem_cons_succ]
              try simp only [List.getElem_cons_zero]
              try simp only [Act.put]
              try simp only [List.setIfInBounds_toArray]
              try simp only [List.set_cons_succ]
              try simp only [List.set_cons_zero]
              refine wpAnyH_take (i := 28) (v := ?v46) rfl (by kernel_rfl) (by kernel_rfl) (by kernel_rfl) (fun _ _ _ h => h) (Or.inl ⟨by rfl, ?hy46⟩) hHeld ?rest46
              case hy46 => (intro w hSw; clear hSw; go_simp; try with_reducible rfl)
              try simp only [List.getElem_toArray]
              try simp only [List.getElem_cons_succ]
              try simp only [List.getElem_cons_zero]
              try simp only [Act.put]
              try simp only [List.setIfInBounds_toArray]
              try simp only [List.set_cons_succ]
              try simp only [List.set_cons_zero]
              refine wpAnyH_take (i := 29) (v := ?v47) rfl (by kernel_rfl) (by kernel_rfl) (by kernel_rfl) (fun _ _ _ h => h) (Or.inl ⟨by rfl, ?hy47⟩) hHeld ?rest47
              case hy47 => (intro w hSw; clear hSw; go_simp; try with_reducible rfl)
              try simp only [List.getElem_toArray]
              try simp only [List.getElem_cons_succ]
              try simp only [List.getElem_cons_zero]
              try simp only [Act.put]
              try simp only [List.setIfInBounds_toArray]
              try simp only [List.set_cons_succ]
              try simp only [List.set_cons_zero]
              refine wpAnyH_take (i := 30) (v := ?v48) rfl (by kernel_rfl) (by kernel_rfl) (by kernel_rfl) (fun _ _ _ h => h) (Or.inl ⟨by rfl, ?hy48⟩) hHeld ?rest48
              case hy48 => (intro w hSw; clear hSw; go_simp; try with_reducible rfl)
              try simp only [List.getElem_toArray]
              try simp only [List.getElem_cons_succ]
              try simp only [List.getElem_cons_zero]
              try simp only [Act.put]
              try simp only [List.setIfInBounds_toArray]
              try simp only [List.set_cons_succ]
              try simp only [List.set_cons_zero]
              refine wpAnyH_take (i := 31) (v := ?v49) rfl (by kernel_rfl) (by kernel_rfl) (by kernel_rfl) (fun _ _ _ h => h) (Or.inl ⟨by rfl, ?hy49⟩) hHeld ?rest49
              case hy49 => (intro w hSw; clear hSw; go_simp; try with_reducible rfl)
              try simp only [List.getElem_toArray]
              try simp only [List.getElem_cons_succ]
              try simp only [List.getElem_cons_zero]
              try simp only [Act.put]
              try simp only [List.setIfInBounds_toArray]
              try simp only [List.set_cons_succ]
              try simp only [List.set_cons_zero]
              refine wpAnyH_take (i := 32) (v := ?v50) rfl (by kernel_rfl) (by kernel_rfl) (by kernel_rfl) (fun _ _ _ h => h) (Or.inl ⟨by rfl, ?hy50⟩) hHeld ?rest50
              case hy50 => (intro w hSw; clear hSw; go_simp; try with_reducible rfl)
              try simp only [List.getElem_toArray]
              try simp only [List.getElem_cons_succ]
              try simp only [List.getElem_cons_zero]
              try simp only [Act.put]
              try simp only [List.setIfInBounds_toArray]
              try simp only [List.set_cons_succ]
              try simp only [List.set_cons_zero]
              refine wpAnyH_take (i := 33) (v := ?v51) rfl (by kernel_rfl) (by kernel_rfl) (by kernel_rfl) (fun _ _ _ h => h) (Or.inl ⟨by rfl, ?hy51⟩) hHeld ?rest51
              case hy51 => (intro w hSw; clear hSw; go_simp; try with_reducible rfl)
              try simp only [List.getElem_toArray]
              try simp only [List.getElem_cons_succ]
              try simp only [List.getElem_cons_zero]
              try simp only [Act.put]
              try simp only [List.setIfInBounds_toArray]
              try simp only [List.set_cons_succ]
              try simp only [List.set_cons_zero]
              refine wpAnyH_take (i := 34) (v := ?v52) rfl (by kernel_rfl) (by kernel_rfl) (by kernel_rfl) (fun _ _ _ h => h) (Or.inl ⟨by rfl, ?hy52⟩) hHeld ?rest52
              case hy52 => (intro w hSw; clear hSw; go_simp; try with_reducible rfl)
              try simp only [List.getElem_toArray]
              try simp only [List.getElem_cons_succ]
              try simp only [List.getElem_cons_zero]
              try simp only [Act.put]
              try simp only [List.setIfInBounds_toArray]
              try simp only [List.set_cons_succ]
              try simp only [List.set_cons_zero]
              refine wpAnyH_take (i := 35) (v := ?v53) rfl (by kernel_rfl) (by kernel_rfl) (by kernel_rfl) (fun _ _ _ h => h) (Or.inl ⟨by rfl, ?hy53⟩) hHeld ?rest53
              case hy53 => (intro w hSw; clear hSw; go_simp; try with_reducible rfl)
              try simp only [List.getElem_toArray]
              try simp only [List.getElem_cons_succ]
              try simp only [List.getElem_cons_zero]
              try simp only [Act.put]
              try simp only [List.setIfInBounds_toArray]
              try simp only [List.set_cons_succ]
              try simp only [List.set_cons_zero]
              refine wpAnyH_take (i := 36) (v := ?v54) rfl (by kernel_rfl) (by kernel_rfl) (by kernel_rfl) (fun _ _ _ h => h) (Or.inl ⟨by rfl, ?hy54⟩) hHeld ?rest54
              case hy54 => (intro w hSw; clear hSw; go_simp; try with_reducible rfl)
              try simp only [List.getElem_toArray]
              try simp only [List.getElem_cons_succ]
              try simp only [List.getElem_cons_zero]
              try simp only [Act.put]
              try simp only [List.setIfInBounds_toArray]
              try simp only [List.set_cons_succ]
              try simp only [List.set_cons_zero]
              refine wpAnyH_take (i := 37) (v := ?v55) rfl (by kernel_rfl) (by kernel_rfl) (by kernel_rfl) (fun _ _ _ h => h) (Or.inl ⟨by rfl, ?hy55⟩) hHeld ?rest55
              case hy55 => (intro w hSw; clear hSw; go_simp; try with_reducible rfl)
              try simp only [List.getElem_toArray]
              try simp only [List.getElem_cons_succ]
              try simp only [List.getElem_cons_zero]
              try simp only [Act.put]
              try simp only [List.setIfInBounds_toArray]
              try simp only [List.set_cons_succ]
              try simp only [List.set_cons_zero]
              refine' wpAnyH_take (i := 38) (v := _) rfl (by kernel_rfl) (by kernel_rfl) (by kernel_rfl) (fun _ _ _ h => h) (yieldsIf_load_mid (by rfl) _ _ rfl tb (tq + 3) rfl (frv x.f) _ ?hS56 Try.underlying41 rfl sizeFr) hHeld ?rest56
              case hS56 => exact fun w h => range_hp ((m2.below h).rng Hp.vals_length 0 (takeH x) rfl)
              try simp only [List.getElem_toArray]
              try simp only [List.getElem_cons_succ]
              try simp only [List.getElem_cons_zero]
              try simp only [Act.put]
              try simp only [List.setIfInBounds_toArray]
              try simp only [List.set_cons_succ]
              try simp only [List.set_cons_zero]
              refine wpAnyH_take (i := 39) (v := ?v57) rfl (by kernel_rfl) (by kernel_rfl) (by kernel_rfl) (fun _ _ _ h => h) (Or.inl ⟨by rfl, ?hy57⟩) hHeld ?rest57
              case hy57 => (intro w hSw; clear hSw; go_simp; try with_reducible rfl)
              try simp only [List.getElem_toArray]
              try simp only [List.getElem_cons_succ]
              try simp only [List.getElem_cons_zero]
              try simp only [Act.put]
              try simp only [List.setIfInBounds_toArray]
              try simp only [List.set_cons_succ]
              try simp only [List.set_cons_zero]
              refine wpAnyH_take (i := 40) (v := ?v58) rfl (by kernel_rfl) (by kernel_rfl) (by kernel_rfl) (fun _ _ _ h => h) (Or.inl ⟨by rfl, ?hy58⟩) hHeld ?rest58
              case hy58 => (intro w hSw; clear hSw; go_simp; try with_reducible rfl)
              try simp only [List.getElem_toArray]
              try simp only [List.getElem_cons_succ]
              try simp only [List.getElem_cons_zero]
              try simp only [Act.put]
              try simp only [List.setIfInBounds_toArray]
              try simp only [List.set_cons_succ]
              try simp only [List.set_cons_zero]
              refine wpAnyH_take (i := 41) (v := ?v59) rfl (by kernel_rfl) (by kernel_rfl) (by kernel_rfl) (fun _ _ _ h => h) (Or.inl ⟨by rfl, ?hy59⟩) hHeld ?rest59
              case hy59 => (intro w hSw; clear hSw; go_simp; try with_reducible rfl)
              try simp only [List.getElem_toArray]
              try simp only [List.getElem_cons_succ]
              try simp only [List.getElem_cons_zero]
              try simp only [Act.put]
              try simp only [List.setIfInBounds_toArray]
              try simp only [List.set_cons_succ]
              try simp only [List.set_cons_zero]
              refine' wpAnyH_take (i := 42) (v := _) rfl (by kernel_rfl) (by kernel_rfl) (by kernel_rfl) (fun _ _ _ h => h) (yieldsIf_load_mid (by rfl) _ _ rfl b (o + i * 36) rfl (frv f) _ ?hS60 Try.underlying41 rfl sizeFr) hHeld ?rest60
              case hS60 => exact fun w h => (hS.below h).rng frv_length i f hk
              try simp only [List.getElem_toArray]
              try simp only [List.getElem_cons_succ]
              try simp only [List.getElem_cons_zero]
              try simp only [Act.put]
              try simp only [List.setIfInBounds_toArray]
              try simp only [List.set_cons_succ]
              try simp only [List.set_cons_zero]
              refine wpAnyH_take (i := 43) (v := ?v61) rfl (by kernel_rfl) (by kernel_rfl) (by kernel_rfl) (fun _ _ _ h => h) (Or.inl ⟨by rfl, ?hy61⟩) hHeld ?rest61
              case hy61 => (intro w hSw; clear hSw; go_simp; try with_reducible rfl)
              try simp only [List.getElem_toArray]
              try simp only [List.getElem_cons_succ]
              try simp only [List.getElem_cons_zero]
              try simp only [Act.put]
              try simp only [List.setIfInBounds_toArray]
              try simp only [List.set_cons_succ]
              try simp only [List.set_cons_zero]
              refine wpAnyH_take (i := 44) (v := ?v62) rfl (by kernel_rfl) (by kernel_rfl) (by kernel_rfl) (fun _ _ _ h => h) (Or.inl ⟨by rfl, ?hy62⟩) hHeld ?rest62
              case hy62 => (intro w hSw; clear hSw; go_simp; try with_reducible rfl)
              try simp only [List.getElem_toArray]
              try simp only [List.getElem_cons_succ]
              try simp only [List.getElem_cons_zero]
              try simp only [Act.put]
              try simp only [List.setIfInBounds_toArray]
              try simp only [List.set_cons_succ]
              try simp only [List.set_cons_zero]
              refine wpAnyH_take (i := 45) (v := ?v63) rfl (by kernel_rfl) (by kernel_rfl) (by kernel_rfl) (fun _ _ _ h => h) (Or.inl ⟨by rfl, ?hy63⟩) hHeld ?rest63
              case hy63 => (intro w hSw; clear hSw; go_simp; try with_reducible rfl)
              try simp only [List.getElem_toArray]
              try simp only [List.getElem_cons_succ]
              try simp only [List.getElem_cons_zero]
              try simp only [Act.put]
              try simp only [List.setIfInBounds_toArray]
              try simp only [List.set_cons_succ]
              try simp only [List.set_cons_zero]
              refine' wpAnyH_take (i := 46) (v := _) rfl (by kernel_rfl) (by kernel_rfl) (by kernel_rfl) (fun _ _ _ h => h) (yieldsIf_load_mid (by rfl) _ _ rfl y 0 rfl (col d2) _ ?hS64 Try.underlying35 rfl sizeCo) hHeld ?rest64
              case hS64 => exact fun w h => (y0.below h).whole
              try simp only [List.getElem_toArray]
              try simp only [List.getElem_cons_succ]
              try simp only [List.getElem_cons_zero]
              try simp only [Act.put]
              try simp only [List.setIfInBounds_toArray]
              try simp only [List.set_cons_succ]
              try simp only [List.set_cons_zero]
              refine wpAnyH_ready (rs := [47]) (by kernel_rfl) (by simp) ?_
              refine AllReadyH.cons rfl (fun K hK => ?_) (AllReadyH.nil)
              go_simp
              go_wp2_with (refine (pg _).mono ?_; rintro r u1 ⟨rfl, hb⟩)
              refine hK.out _ _ (hHeld.below hb) (fun hHeld => ?_)
              clear hK K hb 
              refine wpAnyH_take (i := 48) (v := ?v65) rfl (by kernel_rfl) (by kernel_rfl) (by kernel_rfl) (fun _ _ _ h => h) (Or.inl ⟨by rfl, ?hy65⟩) hHeld ?rest65
              case hy65 => (intro w hSw; clear hSw; go_simp; try with_reducible rfl)
              try simp only [List.getElem_toArray]
              try simp only [List.getElem_cons_succ]
              try simp only [List.getElem_cons_zero]
              try simp only [Act.put]
              try simp only [List.setIfInBounds_toArray]
              try simp only [List.set_cons_succ]
              try simp only [List.set_cons_zero]
              refine wpAnyH_done (by kernel_rfl) ?_ _
              go_wp2_with fail
              go_meet
              exact ⟨rfl, hHeld⟩
            case rest =>
              obtain ⟨rfl, hb⟩ := hcut
              rename World => V3
              clear kf xq1 xq2 pg m2
              replace v0 := v0.below hb
              replace hS := hS.below hb
              replace y0 := y0.below hb
              replace l2 := l2.below hb
              replace hB := hB.trans (hb.mono hB.size)
              clear hb
              go_wp2_with (refine load_blk rfl 35 _ rfl y0 rfl Try.underlying35 rfl sizeCo ?_)
              refine (pk _ (l2.mono (Nat.zero_le _))).mono ?_
              rintro r w5 ⟨rfl, hb⟩
              replace v0 := v0.below hb
              replace hS := hS.below hb
              replace y0 := y0.below hb
              replace l2 := l2.below hb
              replace hB := hB.trans (hb.mono hB.size)
              clear hb pk
              have hb := below_box w5 (.cells (pwc pw) 50)
              have z0 := blk_new w5 (pwc pw) 50
              go_upto_region 11 with (first | refine alloc_zero zeroPw rfl rfl ?_ | refine store_new rfl 50 _ _ rfl (cells := pwc pw) rfl rfl sizePk rfl (pwc_one _) ?_)
              try simp only [Act.put, List.setIfInBounds_toArray, List.set_cons_zero, List.set_cons_succ]
              generalize w5.alloc (Obj.cells (pwc pw) 50) = V5 at z0 hb ⊢
              replace v0 := v0.below hb
              replace hS := hS.below hb
              replace y0 := y0.below hb
              replace l2 := l2.below hb
              replace hB := hB.trans (hb.mono hB.size)
              clear hb 
              generalize w5.heap.size = z at z0 ⊢
              have kf0 : ∀ w, (binOp .neq 41 (.agg (frv pw.f0).toArray) (.agg (frv f).toArray)).run Try.prog w = .ok (.bool false) w := by rw [hw1.out]; exact neqFr f
              have hws : IntKind.u32.wrap (s : Int) = (s : Int) := by rw [IntKind.wrap_u32]; omega
              have g1 : (((i + 1 : Nat) : Int) != ((i + 1 : Nat) : Int)) = false := by simp
              have g2 : ((s : Int) != (s : Int)) = false := by simp
              have g3 : ((n : Int) != (n : Int)) = false := by simp
              generalize hVV : V5 = V at *
              clear hVV
              go_cut [139] from 98 to 138 (fun v wx => v = .bool false ∧ Below V.heap.size V wx)
              case first =>
                clear HJ x1 x2 l2 y0 v0
                by_cases h0 : 0 < i
                · have g0 : (0 : Int) < (i : Int) := by omega
                  obtain ⟨i1, hi1⟩ : ∃ v, i - 1 = v := ⟨_, rfl⟩
                  have hi1w : IntKind.i64.wrap ((i : Int) - 1) = (i1 : Int) := by rw [IntKind.wrap_i64]; omega
                  have hk1 : L[i1]? = some fp := by rw [← hi1]; exact hlast h0
                  have i10 : (0 : Int) ≤ (i1 : Int) := by omega
                  have i11 : (i1 : Int) < (N : Int) := by omega
                  have kf1 : ∀ w, (binOp .neq 41 (.agg (frv pw.f1).toArray) (.agg (frv fp).toArray)).run Try.prog w = .ok (.bool false) w := by rw [hw3.out h0]; exact neqFr fp
                  clear hw1 hw3 hi1 hlast
                  refine wp_region_held_drew (S := fun w' => Below V.heap.size V w') (by kernel_rfl) (Below.refl _ _).drew (fun hHeld => ?_)
                  refine wpAnyH_take (i := 0) (v := ?v66) rfl (by kernel_rfl) (by kernel_rfl) (by kernel_rfl) (fun _ _ _ h => h) (Or.inl ⟨by rfl, ?hy66⟩) hHeld ?rest66
                  case hy66 => (intro w hSw; clear hSw; go_simp; try with_reducible rfl)
                  try simp only [List.getElem_toArray]
                  try simp only [List.getElem_cons_succ]
                  try simp only [List.getElem_cons_zero]
                  try simp only [Act.put]
                  try simp only [List.setIfInBounds_toArray]
                  try simp only [List.set_cons_succ]
                  try simp only [List.set_cons_zero]
                  refine' wpAnyH_take (i := 1) (v := _) rfl (by kernel_rfl) (by kernel_rfl) (by kernel_rfl) (fun _ _ _ h => h) (yieldsIf_load_mid (by rfl) _ _ rfl z 35 rfl (frv pw.f0) _ ?hS67 Try.underlying41 rfl sizeFr) hHeld ?rest67
                  case hS67 => exact fun w h => (z0.below h).range 35 _ pw.p_f0
                  try simp only [List.getElem_toArray]
                  try simp only [List.getElem_cons_succ]
                  try simp only [List.getElem_cons_zero]
                  try simp only [Act.put]
                  try simp only [List.setIfInBounds_toArray]
                  try simp only [List.set_cons_succ]
                  try simp only [List.set_cons_zero]
                  refine wpAnyH_take (i := 2) (v := ?v68) rfl (by kernel_rfl) (by kernel_rfl) (by kernel_rfl) (fun _ _ _ h => h) (Or.inl ⟨by rfl, ?hy68⟩) hHeld ?rest68
                  case hy68 => (intro w hSw; clear hSw; go_simp; try with_reducible rfl)
                  try simp only [List.getElem_toArray]
                  try simp only [List.getElem_cons_succ]
                  try simp only [List.getElem_cons_zero]
                  try simp only [Act.put]
                  try simp only [List.setIfInBounds_toArray]
                  try simp only [List.set_cons_succ]
                  try simp only [List.set_cons_zero]
                  refine wpAnyH_take (i := 3) (v := ?v69) rfl (by kernel_rfl) (by kernel_rfl) (by kernel_rfl) (fun _ _ _ h => h) (Or.inl ⟨by rfl, ?hy69⟩) hHeld ?rest69
                  case hy69 => (intro w hSw; clear hSw; go_simp; try with_reducible rfl)
                  try simp only [List.getElem_toArray]
                  try simp only [List.getElem_cons_succ]
                  try simp only [List.getElem_cons_zero]
                  try simp only [Act.put]
                  try simp only [List.setIfInBounds_toArray]
                  try simp only [List.set_cons_succ]
                  try simp only [List.set_cons_zero]
                  refine wpAnyH_take (i := 4) (v := ?v70) rfl (by kernel_rfl) (by kernel_rfl) (by kernel_rfl) (fun _ _ _ h => h) (Or.inl ⟨by rfl, ?hy70⟩) hHeld ?rest70
                  case hy70 => (intro w hSw; clear hSw; go_simp; try with_reducible rfl)
                  try simp only [List.getElem_toArray]
                  try simp only [List.getElem_cons_succ]
                  try simp only [List.getElem_cons_zero]
                  try simp only [Act.put]
                  try simp only [List.setIfInBounds_toArray]
                  try simp only [List.set_cons_succ]
                  try simp only [List.set_cons_zero]
                  refine' wpAnyH_take (i := 5) (v := _) rfl (by kernel_rfl) (by kernel_rfl) (by kernel_rfl) (fun _ _ _ h => h) (yieldsIf_load_mid (by rfl) _ _ rfl b (o + i * 36) rfl (frv f) _ ?hS71 Try.underlying41 rfl sizeFr) hHeld ?rest71
                  case hS71 => exact fun w h => (hS.below h).rng frv_length i f hk
                  try simp only [List.getElem_toArray]
                  try simp only [List.getElem_cons_succ]
                  try simp only [List.getElem_cons_zero]
                  try simp only [Act.put]
                  try simp only [List.setIfInBounds_toArray]
                  try simp only [List.set_cons_succ]
                  try simp only [List.set_cons_zero]
                  refine wpAnyH_take (i := 6) (v := ?v72) rfl (by kernel_rfl) (by kernel_rfl) (by kernel_rfl) (fun _ _ _ h => h) (Or.inl ⟨by rfl, ?hy72⟩) hHeld ?rest72
                  case hy72 => (intro w hSw; clear hSw; go_simp; try with_reducible rfl)
                  try simp only [List.getElem_toArray]
                  try simp only [List.getElem_cons_succ]
                  try simp only [List.getElem_cons_zero]
                  try simp only [Act.put]
                  try simp only [List.setIfInBounds_toArray]
                  try simp only [List.set_cons_succ]
                  try simp only [List.set_cons_zero]
                  refine wpAnyH_take (i := 7) (v := ?v73) rfl (by kernel_rfl) (by kernel_rfl) (by kernel_rfl) (fun _ _ _ h => h) (Or.inl ⟨by rfl, ?hy73⟩) hHeld ?rest73
                  case hy73 => (intro w hSw; clear hSw; go_simp; try with_reducible rfl)
                  try simp only [List.getElem_toArray]
                  try simp only [List.getElem_cons_succ]
                  try simp only [List.getElem_cons_zero]
                  try simp only [Act.put]
                  try simp only [List.setIfInBounds_toArray]
                  try simp only [List.set_cons_succ]
                  try simp only [List.set_cons_zero]
                  refine wpAnyH_take (i := 8) (v := ?v74) rfl (by kernel_rfl) (by kernel_rfl) (by kernel_rfl) (fun _ _ _ h => h) (Or.inl ⟨by rfl, ?hy74⟩) hHeld ?rest74
                  case hy74 => (intro w hSw; clear hSw; go_simp; try with_reducible rfl)
                  try simp only [List.getElem_toArray]
                  try simp only [List.getElem_cons_succ]
                  try simp only [List.getElem_cons_zero]
                  try simp only [Act.put]
                  try simp only [List.setIfInBounds_toArray]
                  try simp only [List.set_cons_succ]
                  try simp only [List.set_cons_zero]
                  refine wpAnyH_take (i := 9) (v := ?v75) rfl (by kernel_rfl) (by kernel_rfl) (by kernel_rfl) (fun _ _ _ h => h) (Or.inl ⟨by rfl, ?hy75⟩) hHeld ?rest75
                  case hy75 => (intro w hSw; have hc : w.cell? ⟨z, 34, none⟩ = some (.int .u32 (pw.rd : Int)) := (z0.below hSw).cell 34 _ rfl; rw [hw2] at hc; clear hSw; go_simp; try with_reducible rfl)
                  try simp only [List.getElem_toArray]
                  try simp only [List.getElem_cons_succ]
                  try simp only [List.getElem_cons_zero]
                  try simp only [Act.put]
                  try simp only [List.setIfInBounds_toArray]
                  try simp only [List.set_cons_succ]
                  try simp only [List.set_cons_zero]
                  refine wpAnyH_take (i := 10) (v := ?v76) rfl (by kernel_rfl) (by kernel_rfl) (by kernel_rfl) (fun _ _ _ h => h) (Or.inl ⟨by rfl, ?hy76⟩) hHeld ?rest76
                  case hy76 => (intro w hSw; clear hSw; go_simp; try with_reducible rfl)
                  try simp only [List.getElem_toArray]
                  try simp only [List.getElem_cons_succ]
                  try simp only [List.getElem_cons_zero]
                  try simp only [Act.put]
                  try simp only [List.setIfInBounds_toArray]
                  try simp only [List.set_cons_succ]
                  try simp only [List.set_cons_zero]
                  refine wpAnyH_take (i := 11) (v := ?v77) rfl (by kernel_rfl) (by kernel_rfl) (by kernel_rfl) (fun _ _ _ h => h) (Or.inl ⟨by rfl, ?hy77⟩) hHeld ?rest77
                  case hy77 => (intro w hSw; clear hSw; go_simp; try with_reducible rfl)
                  try simp only [List.getElem_toArray]
                  try simp only [List.getElem_cons_succ]
                  try simp only [List.getElem_cons_zero]
                  try simp only [Act.put]
                  try simp only [List.setIfInBounds_toArray]
                  try simp only [List.set_cons_succ]
                  try simp only [List.set_cons_zero]
                  refine wpAnyH_take (i := 12) (v := ?v78) rfl (by kernel_rfl) (by kernel_rfl) (by kernel_rfl) (fun _ _ _ h => h) (Or.inl ⟨by rfl, ?hy78⟩) hHeld ?rest78
                  case hy78 => (intro w hSw; clear hSw; go_simp; try with_reducible rfl)
                  try simp only [List.getElem_toArray]
                  try simp only [List.getElem_cons_succ]
                  try simp only [List.getElem_cons_zero]
                  try simp only [Act.put]
                  try simp only [List.setIfInBounds_toArray]
                  try simp only [List.set_cons_succ]
                  try simp only [List.set_cons_zero]
                  refine wpAnyH_take (i := 13) (v := ?v79) rfl (by kernel_rfl) (by kernel_rfl) (by kernel_rfl) (fun _ _ _ h => h) (Or.inl ⟨by rfl, ?hy79⟩) hHeld ?rest79
                  case hy79 => (intro w hSw; clear hSw; go_simp; try with_reducible rfl)
                  try simp only [List.getElem_toArray]
                  try simp only [List.getElem_cons_succ]
                  try simp only [List.getElem_cons_zero]
                  try simp only [Act.put]
                  try simp only [List.setIfInBounds_toArray]
                  try simp only [List.set_cons_succ]
                  try simp only [List.set_cons_zero]
                  refine wpAnyH_take (i := 14) (v := ?v80) rfl (by kernel_rfl) (by kernel_rfl) (by kernel_rfl) (fun _ _ _ h => h) (Or.inl ⟨by rfl, ?hy80⟩) hHeld ?rest80
                  case hy80 => (intro w hSw; clear hSw; go_simp; try with_reducible rfl)
                  try simp only [List.getElem_toArray]
                  try simp only [List.getElem_cons_succ]
                  try simp only [List.getElem_cons_zero]
                  try simp only [Act.put]
                  try simp only [List.setIfInBounds_toArray]
                  try simp only [List.set_cons_succ]
                  try simp only [List.set_cons_zero]
                  refine wpAnyH_take (i := 15) (v := ?v81) rfl (by kernel_rfl) (by kernel_rfl) (by kernel_rfl) (fun _ _ _ h => h) (Or.inl ⟨by rfl, ?hy81⟩) hHeld ?rest81
                  case hy81 => (intro w hSw; clear hSw; go_simp; try with_reducible rfl)
                  try simp only [List.getElem_toArray]
                  try simp only [List.getElem_cons_succ]
                  try simp only [List.getElem_cons_zero]
                  try simp only [Act.put]
                  try simp only [List.setIfInBounds_toArray]
                  try simp only [List.set_cons_succ]
                  try simp only [List.set_cons_zero]
                  refine wpAnyH_take (i := 16) (v := ?v82) rfl (by kernel_rfl) (by kernel_rfl) (by kernel_rfl) (fun _ _ _ h => h) (Or.inl ⟨by rfl, ?hy82⟩) hHeld ?rest82
                  case hy82 => (intro w hSw; clear hSw; go_simp; try with_reducible rfl)
                  try simp only [List.getElem_toArray]
                  try simp only [List.getElem_cons_succ]
                  try simp only [List.getElem_cons_zero]
                  try simp only [Act.put]
                  try simp only [List.setIfInBounds_toArray]
                  try simp only [List.set_cons_succ]
                  try simp only [List.set_cons_zero]
                  refine wpAnyH_take (i := 17) (v := ?v83) rfl (by kernel_rfl) (by kernel_rfl) (by kernel_rfl) (fun _ _ _ h => h) (Or.inl ⟨by rfl, ?hy83⟩) hHeld ?rest83
                  case hy83 => (intro w hSw; clear hSw; go_simp; try with_reducible rfl)
                  try simp only [List.getElem_toArray]
                  try simp only [List.getElem_cons_succ]
                  try simp only [List.getElem_cons_zero]
                  try simp only [Act.put]
                  try simp only [List.setIfInBounds_toArray]
                  try simp only [List.set_cons_succ]
                  try simp only [List.set_cons_zero]
                  refine wpAnyH_take (i := 18) (v := ?v84) rfl (by kernel_rfl) (by kernel_rfl) (by kernel_rfl) (fun _ _ _ h => h) (Or.inl ⟨by rfl, ?hy84⟩) hHeld ?rest84
                  case hy84 => (intro w hSw; clear hSw; go_simp; try with_reducible rfl)
                  try simp only [List.getElem_toArray]
                  try simp only [List.getElem_cons_succ]
                  try simp only [List.getElem_cons_zero]
                  try simp only [Act.put]
                  try simp only [List.setIfInBounds_toArray]
                  try simp only [List.set_cons_succ]
                  try simp only [List.set_cons_zero]
                  refine wpAnyH_take (i := 19) (v := ?v85) rfl (by kernel_rfl) (by kernel_rfl) (by kernel_rfl) (fun _ _ _ h => h) (Or.inl ⟨by rfl, ?hy85⟩) hHeld ?rest85
                  case hy85 => (intro w hSw; clear hSw; go_simp; try with_reducible rfl)
                  try simp only [List.getElem_toArray]
                  try simp only [List.getElem_cons_succ]
                  try simp only [List.getElem_cons_zero]
                  try simp only [Act.put]
                  try simp only [List.setIfInBounds_toArray]
                  try simp only [List.set_cons_succ]
                  try simp only [List.set_cons_zero]
                  refine' wpAnyH_take (i := 20) (v := _) rfl (by kernel_rfl) (by kernel_rfl) (by kernel_rfl) (fun _ _ _ h => h) (yieldsIf_load_mid (by rfl) _ _ rfl z 71 rfl (frv pw.f1) _ ?hS86 Try.underlying41 rfl sizeFr) hHeld ?rest86
                  case hS86 => exact fun w h => (z0.below h).range 71 _ pw.p_f1
                  try simp only [List.getElem_toArray]
                  try simp only [List.getElem_cons_succ]
                  try simp only [List.getElem_cons_zero]
                  try simp only [Act.put]
                  try simp only [List.setIfInBounds_toArray]
                  try simp only [List.set_cons_succ]
                  try simp only [List.set_cons_zero]
                  refine wpAnyH_take (i := 21) (v := ?v87) rfl (by kernel_rfl) (by kernel_rfl) (by kernel_rfl) (fun _ _ _ h => h) (Or.inl ⟨by rfl, ?hy87⟩) hHeld ?rest87
                  case hy87 => (intro w hSw; clear hSw; go_simp; try with_reducible rfl)
                  try simp only [List.getElem_toArray]
                  try simp only [List.getElem_cons_succ]
                  try simp only [List.getElem_cons_zero]
                  try simp only [Act.put]
                  try simp only [List.setIfInBounds_toArray]
                  try simp only [List.set_cons_succ]
                  try simp only [List.set_cons_zero]
                  refine wpAnyH_take (i := 22) (v := ?v88) rfl (by kernel_rfl) (by kernel_rfl) (by kernel_rfl) (fun _ _ _ h => h) (Or.inl ⟨by rfl, ?hy88⟩) hHeld ?rest88
                  case hy88 => (intro w hSw; clear hSw; go_simp; try with_reducible rfl)
                  try simp only [List.getElem_toArray]
                  try simp only [List.getElem_cons_succ]
                  try simp only [List.getElem_cons_zero]
                  try simp only [Act.put]
                  try simp only [List.setIfInBounds_toArray]
                  try simp only [List.set_cons_succ]
                  try simp only [List.set_cons_zero]
                  refine wpAnyH_take (i := 23) (v := ?v89) rfl (by kernel_rfl) (by kernel_rfl) (by kernel_rfl) (fun _ _ _ h => h) (Or.inl ⟨by rfl, ?hy89⟩) hHeld ?rest89
                  case hy89 => (intro w hSw; clear hSw; go_simp; try with_reducible rfl)
                  try simp only [List.getElem_toArray]
                  try simp only [List.getElem_cons_succ]
                  try simp only [List.getElem_cons_zero]
                  try simp only [Act.put]
                  try simp only [List.setIfInBounds_toArray]
                  try simp only [List.set_cons_succ]
                  try simp only [List.set_cons_zero]
                  refine wpAnyH_take (i := 24) (v := ?v90) rfl (by kernel_rfl) (by kernel_rfl) (by kernel_rfl) (fun _ _ _ h => h) (Or.inl ⟨by rfl, ?hy90⟩) hHeld ?rest90
                  case hy90 => (intro w hSw; clear hSw; go_simp; try with_reducible rfl)
                  try simp only [List.getElem_toArray]
                  try simp only [List.getElem_cons_succ]
                  try simp only [List.getElem_cons_zero]
                  try simp only [Act.put]
                  try simp only [List.setIfInBounds_toArray]
                  try simp only [List.set_cons_succ]
                  try simp only [List.set_cons_zero]
                  refine' wpAnyH_take (i := 25) (v := _) rfl (by kernel_rfl) (by kernel_rfl) (by kernel_rfl) (fun _ _ _ h => h) (yieldsIf_load_mid (by rfl) _ _ rfl b (o + i1 * 36) rfl (frv fp) _ ?hS91 Try.underlying41 rfl sizeFr) hHeld ?rest91
                  case hS91 => exact fun w h => (hS.below h).rng frv_length i1 fp hk1
                  try simp only [List.getElem_toArray]
                  try simp only [List.getElem_cons_succ]
                  try simp only [List.getElem_cons_zero]
                  try simp only [Act.put]
                  try simp only [List.setIfInBounds_toArray]
                  try simp only [List.set_cons_succ]
                  try simp only [List.set_cons_zero]
                  refine wpAnyH_take (i := 26) (v := ?v92) rfl (by kernel_rfl) (by kernel_rfl) (by kernel_rfl) (fun _ _ _ h => h) (Or.inl ⟨by rfl, ?hy92⟩) hHeld ?rest92
                  case hy92 => (intro w hSw; clear hSw; go_simp; try with_reducible rfl)
                  try simp only [List.getElem_toArray]
                  try simp only [List.getElem_cons_succ]
                  try simp only [List.getElem_cons_zero]
                  try simp only [Act.put]
                  try simp only [List.setIfInBounds_toArray]
                  try simp only [List.set_cons_succ]
                  try simp only [List.set_cons_zero]
                  refine wpAnyH_take (i := 27) (v := ?v93) rfl (by kernel_rfl) (by kernel_rfl) (by kernel_rfl) (fun _ _ _ h => h) (Or.inl ⟨by rfl, ?hy93⟩) hHeld ?rest93
                  case hy93 => (intro w hSw; clear hSw; go_simp; try with_reducible rfl)
                  try simp only [List.getElem_toArray]
                  try simp only [List.getElem_cons_succ]
                  try simp only [List.getElem_cons_zero]
                  try simp only [Act.put]
                  try simp only [List.setIfInBounds_toArray]
                  try simp only [List.set_cons_succ]
                  try simp only [List.set_cons_zero]
                  refine wpAnyH_take (i := 28) (v := ?v94) rfl (by kernel_rfl) (by kernel_rfl) (by kernel_rfl) (fun _ _ _ h => h) (Or.inl ⟨by rfl, ?hy94⟩) hHeld ?rest94
                  case hy94 => (intro w hSw; clear hSw; go_simp; try with_reducible rfl)
                  try simp only [List.getElem_toArray]
                  try simp only [List.getElem_cons_succ]
                  try simp only [List.getElem_cons_zero]
                  try simp only [Act.put]
                  try simp only [List.setIfInBounds_toArray]
                  try simp only [List.set_cons_succ]
                  try simp only [List.set_cons_zero]
                  refine wpAnyH_take (i := 29) (v := ?v95) rfl (by kernel_rfl) (by kernel_rfl) (by kernel_rfl) (fun _ _ _ h => h) (Or.inl ⟨by rfl, ?hy95⟩) hHeld ?rest95
                  case hy95 => (intro w hSw; clear hSw; go_simp; try with_reducible rfl)
                  try simp only [List.getElem_toArray]
                  try simp only [List.getElem_cons_succ]
                  try simp only [List.getElem_cons_zero]
                  try simp only [Act.put]
                  try simp only [List.setIfInBounds_toArray]
                  try simp only [List.set_cons_succ]
                  try simp only [List.set_cons_zero]
                  refine wpAnyH_take (i := 30) (v := ?v96) rfl (by kernel_rfl) (by kernel_rfl) (by kernel_rfl) (fun _ _ _ h => h) (Or.inl ⟨by rfl, ?hy96⟩) hHeld ?rest96
                  case hy96 => (intro w hSw; clear hSw; go_simp; try with_reducible rfl)
                  try simp only [List.getElem_toArray]
                  try simp only [List.getElem_cons_succ]
                  try simp only [List.getElem_cons_zero]
                  try simp only [Act.put]
                  try simp only [List.setIfInBounds_toArray]
                  try simp only [List.set_cons_succ]
                  try simp only [List.set_cons_zero]
                  refine wpAnyH_take (i := 31) (v := ?v97) rfl (by kernel_rfl) (by kernel_rfl) (by kernel_rfl) (fun _ _ _ h => h) (Or.inl ⟨by rfl, ?hy97⟩) hHeld ?rest97
                  case hy97 => (intro w hSw; have hc : w.cell? ⟨z, 0, none⟩ = some (.int .u32 (pw.fr : Int)) := (z0.below hSw).cell 0 _ rfl; rw [hw4] at hc; clear hSw; go_simp; try with_reducible rfl)
                  try simp only [List.getElem_toArray]
                  try simp only [List.getElem_cons_succ]
                  try simp only [List.getElem_cons_zero]
                  try simp only [Act.put]
                  try simp only [List.setIfInBounds_toArray]
                  try simp only [List.set_cons_succ]
                  try simp only [List.set_cons_zero]
                  refine wpAnyH_take (i := 32) (v := ?v98) rfl (by kernel_rfl) (by kernel_rfl) (by kernel_rfl) (fun _ _ _ h => h) (Or.inl ⟨by rfl, ?hy98⟩) hHeld ?rest98
                  case hy98 => (intro w hSw; clear hSw; go_simp; try with_reducible rfl)
                  try simp only [List.getElem_toArray]
                  try simp only [List.getElem_cons_succ]
                  try simp only [List.getElem_cons_zero]
                  try simp only [Act.put]
                  try simp only [List.setIfInBounds_toArray]
                  try simp only [List.set_cons_succ]
                  try simp only [List.set_cons_zero]
                  refine wpAnyH_take (i := 33) (v := ?v99) rfl (by kernel_rfl) (by kernel_rfl) (by kernel_rfl) (fun _ _ _ h => h) (Or.inl ⟨by rfl, ?hy99⟩) hHeld ?rest99
                  case hy99 => (intro w hSw; clear hSw; go_simp; try with_reducible rfl)
                  try simp only [List.getElem_toArray]
                  try simp only [List.getElem_cons_succ]
                  try simp only [List.getElem_cons_zero]
                  try simp only [Act.put]
                  try simp only [List.setIfInBounds_toArray]
                  try simp only [List.set_cons_succ]
                  try simp only [List.set_cons_zero]
                  refine wpAnyH_take (i := 34) (v := ?v100) rfl (by kernel_rfl) (by kernel_rfl) (by kernel_rfl) (fun _ _ _ h => h) (Or.inl ⟨by rfl, ?hy100⟩) hHeld ?rest100
                  case hy100 => (intro w hSw; clear hSw; go_simp; try with_reducible rfl)
                  try simp only [List.getElem_toArray]
                  try simp only [List.getElem_cons_succ]
                  try simp only [List.getElem_cons_zero]
                  try simp only [Act.put]
                  try simp only [List.setIfInBounds_toArray]
                  try simp only [List.set_cons_succ]
                  try simp only [List.set_cons_zero]
                  refine wpAnyH_take (i := 35) (v := ?v101) rfl (by kernel_rfl) (by kernel_rfl) (by kernel_rfl) (fun _ _ _ h => h) (Or.inl ⟨by rfl, ?hy101⟩) hHeld ?rest101
                  case hy101 => (intro w hSw; clear hSw; go_simp; try with_reducible rfl)
                  try simp only [List.getElem_toArray]
                  try simp only [List.getElem_cons_succ]
                  try simp only [List.getElem_cons_zero]
                  try simp only [Act.put]
                  try simp only [List.setIfInBounds_toArray]
                  try simp only [List.set_cons_succ]
                  try simp only [List.set_cons_zero]
                  refine wpAnyH_take (i := 36) (v := ?v102) rfl (by kernel_rfl) (by kernel_rfl) (by kernel_rfl) (fun _ _ _ h => h) (Or.inl ⟨by rfl, ?hy102⟩) hHeld ?rest102
                  case hy102 => (intro w hSw; clear hSw; go_simp; try with_reducible rfl)
                  try simp only [List.getElem_toArray]
                  try simp only [List.getElem_cons_succ]
                  try simp only [List.getElem_cons_zero]
                  try simp only [Act.put]
                  try simp only [List.setIfInBounds_toArray]
                  try simp only [List.set_cons_succ]
                  try simp only [List.set_cons_zero]
                  refine wpAnyH_take (i := 37) (v := ?v103) rfl (by kernel_rfl) (by kernel_rfl) (by kernel_rfl) (fun _ _ _ h => h) (Or.inl ⟨by rfl, ?hy103⟩) hHeld ?rest103
                  case hy103 => (intro w hSw; clear hSw; go_simp; try with_reducible rfl)
                  try simp only [List.getElem_toArray]
                  try simp only [List.getElem_cons_succ]
                  try simp only [List.getElem_cons_zero]
                  try simp only [Act.put]
                  try simp only [List.setIfInBounds_toArray]
                  try simp only [List.set_cons_succ]
                  try simp only [List.set_cons_zero]
                  refine wpAnyH_take (i := 38) (v := ?v104) rfl (by kernel_rfl) (by kernel_rfl) (by kernel_rfl) (fun _ _ _ h => h) (Or.inl ⟨by rfl, ?hy104⟩) hHeld ?rest104
                  case hy104 => (intro w hSw; have hc : w.cell? ⟨z, 1, none⟩ = some (.int .u32 (pw.inc : Int)) := (z0.below hSw).cell 1 _ rfl; rw [hw5] at hc; clear hSw; go_simp; try with_reducible rfl)
                  try simp only [List.getElem_toArray]
                  try simp only [List.getElem_cons_succ]
                  try simp only [List.getElem_cons_zero]
                  try simp only [Act.put]
                  try simp only [List.setIfInBounds_toArray]
                  try simp only [List.set_cons_succ]
                  try simp only [List.set_cons_zero]
                  refine wpAnyH_take (i := 39) (v := ?v105) rfl (by kernel_rfl) (by kernel_rfl) (by kernel_rfl) (fun _ _ _ h => h) (Or.inl ⟨by rfl, ?hy105⟩) hHeld ?rest105
                  case hy105 => (intro w hSw; clear hSw; go_simp; try with_reducible rfl)
                  try simp only [List.getElem_toArray]
                  try simp only [List.getElem_cons_succ]
                  try simp only [List.getElem_cons_zero]
                  try simp only [Act.put]
                  try simp only [List.setIfInBounds_toArray]
                  try simp only [List.set_cons_succ]
                  try simp only [List.set_cons_zero]
                  refine wpAnyH_take (i := 40) (v := ?v106) rfl (by kernel_rfl) (by kernel_rfl) (by kernel_rfl) (fun _ _ _ h => h) (Or.inl ⟨by rfl, ?hy106⟩) hHeld ?rest106
                  case hy106 => (intro w hSw; clear hSw; go_simp; try with_reducible rfl)
                  try simp only [List.getElem_toArray]
                  try simp only [List.getElem_cons_succ]
                  try simp only [List.getElem_cons_zero]
                  try simp only [Act.put]
                  try simp only [List.setIfInBounds_toArray]
                  try simp only [List.set_cons_succ]
                  try simp only [List.set_cons_zero]
                  refine wpAnyH_take (i := 41) (v := ?v107) rfl (by kernel_rfl) (by kernel_rfl) (by kernel_rfl) (fun _ _ _ h => h) (Or.inl ⟨by rfl, ?hy107⟩) hHeld ?rest107
                  case hy107 => (intro w hSw; clear hSw; go_simp; try with_reducible rfl)
                  try simp only [List.getElem_toArray]
                  try simp only [List.getElem_cons_succ]
                  try simp only [List.getElem_cons_zero]
                  try simp only [Act.put]
                  try simp only [List.setIfInBounds_toArray]
                  try simp only [List.set_cons_succ]
                  try simp only [List.set_cons_zero]
                  refine wpAnyH_done (by kernel_rfl) ?_ _
                  go_wp2_with fail
                  go_meet
                  exact ⟨rfl, hHeld⟩
                · have g0 : ¬ (0 : Int) < (i : Int) := by omega
                  clear hw1 hw3 hlast
                  refine wp_region_held_drew (S := fun w' => Below V.heap.size V w') (by kernel_rfl) (Below.refl _ _).drew (fun hHeld => ?_)
                  refine wpAnyH_take (i := 0) (v := ?v108) rfl (by kernel_rfl) (by kernel_rfl) (by kernel_rfl) (fun _ _ _ h => h) (Or.inl ⟨by rfl, ?hy108⟩) hHeld ?rest108
                  case hy108 => (intro w hSw; clear hSw; go_simp; try with_reducible rfl)
                  try simp only [List.getElem_toArray]
                  try simp only [List.getElem_cons_succ]
                  try simp only [List.getElem_cons_zero]
                  try simp only [Act.put]
                  try simp only [List.setIfInBounds_toArray]
                  try simp only [List.set_cons_succ]
                  try simp only [List.set_cons_zero]
                  refine' wpAnyH_take (i := 1) (v := _) rfl (by kernel_rfl) (by kernel_rfl) (by kernel_rfl) (fun _ _ _ h => h) (yieldsIf_load_mid (by rfl) _ _ rfl z 35 rfl (frv pw.f0) _ ?hS109 Try.underlying41 rfl sizeFr) hHeld ?rest109
                  case hS109 => exact fun w h => (z0.below h).range 35 _ pw.p_f0
                  try simp only [List.getElem_toArray]
                  try simp only [List.getElem_cons_succ]
                  try simp only [List.getElem_cons_zero]
                  try simp only [Act.put]
                  try simp only [List.setIfInBounds_toArray]
                  try simp only [List.set_cons_succ]
                  try simp only [List.set_cons_zero]
                  refine wpAnyH_take (i := 2) (v := ?v110) rfl (by kernel_rfl) (by kernel_rfl) (by kernel_rfl) (fun _ _ _ h => h) (Or.inl ⟨by rfl, ?hy110⟩) hHeld ?rest110
                  case hy110 => (intro w hSw; clear hSw; go_simp; try with_reducible rfl)
                  try simp only [List.getElem_toArray]
                  try simp only [List.getElem_cons_succ]
                  try simp only [List.getElem_cons_zero]
                  try simp only [Act.put]
                  try simp only [List.setIfInBounds_toArray]
                  try simp only [List.set_cons_succ]
                  try simp only [List.set_cons_zero]
                  refine wpAnyH_take (i := 3) (v := ?v111) rfl (by kernel_rfl) (by kernel_rfl) (by kernel_rfl) (fun _ _ _ h => h) (Or.inl ⟨by rfl, ?hy111⟩) hHeld ?rest111
                  case hy111 => (intro w hSw; clear hSw; go_simp; try with_reducible rfl)
                  try simp only [List.getElem_toArray]
                  try simp only [List.getElem_cons_succ]
                  try simp only [List.getElem_cons_zero]
                  try simp only [Act.put]
                  try simp only [List.setIfInBounds_toArray]
                  try simp only [List.set_cons_succ]
                  try simp only [List.set_cons_zero]
                  refine wpAnyH_take (i := 4) (v := ?v112) rfl (by kernel_rfl) (by kernel_rfl) (by kernel_rfl) (fun _ _ _ h => h) (Or.inl ⟨by rfl, ?hy112⟩) hHeld ?rest112
                  case hy112 => (intro w hSw; clear hSw; go_simp; try with_reducible rfl)
                  try simp only [List.getElem_toArray]
                  try simp only [List.getElem_cons_succ]
                  try simp only [List.getElem_cons_zero]
                  try simp only [Act.put]
                  try simp only [List.setIfInBounds_toArray]
                  try simp only [List.set_cons_succ]
                  try simp only [List.set_cons_zero]
                  refine' wpAnyH_take (i := 5) (v := _) rfl (by kernel_rfl) (by kernel_rfl) (by kernel_rfl) (fun _ _ _ h => h) (yieldsIf_load_mid (by rfl) _ _ rfl b (o + i * 36) rfl (frv f) _ ?hS113 Try.underlying41 rfl sizeFr) hHeld ?rest113
                  case hS113 => exact fun w h => (hS.below h).rng frv_length i f hk
                  try simp only [List.getElem_toArray]
                  try simp only [List.getElem_cons_succ]
                  try simp only [List.getElem_cons_zero]
                  try simp only [Act.put]
                  try simp only [List.setIfInBounds_toArray]
                  try simp only [List.set_cons_succ]
                  try simp only [List.set_cons_zero]
                  refine wpAnyH_take (i := 6) (v := ?v114) rfl (by kernel_rfl) (by kernel_rfl) (by kernel_rfl) (fun _ _ _ h => h) (Or.inl ⟨by rfl, ?hy114⟩) hHeld ?rest114
                  case hy114 => (intro w hSw; clear hSw; go_simp; try with_reducible rfl)
                  try simp only [List.getElem_toArray]
                  try simp only [List.getElem_cons_succ]
                  try simp only [List.getElem_cons_zero]
                  try simp only [Act.put]
                  try simp only [List.setIfInBounds_toArray]
                  try simp only [List.set_cons_succ]
                  try simp only [List.set_cons_zero]
                  refine wpAnyH_take (i := 7) (v := ?v115) rfl (by kernel_rfl) (by kernel_rfl) (by kernel_rfl) (fun _ _ _ h => h) (Or.inl ⟨by rfl, ?hy115⟩) hHeld ?rest115
                  case hy115 => (intro w hSw; clear hSw; go_simp; try with_reducible rfl)
                  try simp only [List.getElem_toArray]
                  try simp only [List.getElem_cons_succ]
                  try simp only [List.getElem_cons_zero]
                  try simp only [Act.put]
                  try simp only [List.setIfInBounds_toArray]
                  try simp only [List.set_cons_succ]
                  try simp only [List.set_cons_zero]
                  refine wpAnyH_take (i := 8) (v := ?v116) rfl (by kernel_rfl) (by kernel_rfl) (by kernel_rfl) (fun _ _ _ h => h) (Or.inl ⟨by rfl, ?hy116⟩) hHeld ?rest116
                  case hy116 => (intro w hSw; clear hSw; go_simp; try with_reducible rfl)
                  try simp only [List.getElem_toArray]
                  try simp only [List.getElem_cons_succ]
                  try simp only [List.getElem_cons_zero]
                  try simp only [Act.put]
                  try simp only [List.setIfInBounds_toArray]
                  try simp only [List.set_cons_succ]
                  try simp only [List.set_cons_zero]
                  refine wpAnyH_take (i := 9) (v := ?v117) rfl (by kernel_rfl) (by kernel_rfl) (by kernel_rfl) (fun _ _ _ h => h) (Or.inl ⟨by rfl, ?hy117⟩) hHeld ?rest117
                  case hy117 => (intro w hSw; have hc : w.cell? ⟨z, 34, none⟩ = some (.int .u32 (pw.rd : Int)) := (z0.below hSw).cell 34 _ rfl; rw [hw2] at hc; clear hSw; go_simp; try with_reducible rfl)
                  try simp only [List.getElem_toArray]
                  try simp only [List.getElem_cons_succ]
                  try simp only [List.getElem_cons_zero]
                  try simp only [Act.put]
                  try simp only [List.setIfInBounds_toArray]
                  try simp only [List.set_cons_succ]
                  try simp only [List.set_cons_zero]
                  refine wpAnyH_take (i := 10) (v := ?v118) rfl (by kernel_rfl) (by kernel_rfl) (by kernel_rfl) (fun _ _ _ h => h) (Or.inl ⟨by rfl, ?hy118⟩) hHeld ?rest118
                  case hy118 => (intro w hSw; clear hSw; go_simp; try with_reducible rfl)
                  try simp only [List.getElem_toArray]
                  try simp only [List.getElem_cons_succ]
                  try simp only [List.getElem_cons_zero]
                  try simp only [Act.put]
                  try simp only [List.setIfInBounds_toArray]
                  try simp only [List.set_cons_succ]
                  try simp only [List.set_cons_zero]
                  refine wpAnyH_take (i := 11) (v := ?v119) rfl (by kernel_rfl) (by kernel_rfl) (by kernel_rfl) (fun _ _ _ h => h) (Or.inl ⟨by rfl, ?hy119⟩) hHeld ?rest119
                  case hy119 => (intro w hSw; clear hSw; go_simp; try with_reducible rfl)
                  try simp only [List.getElem_toArray]
                  try simp only [List.getElem_cons_succ]
                  try simp only [List.getElem_cons_zero]
                  try simp only [Act.put]
                  try simp only [List.setIfInBounds_toArray]
                  try simp only [List.set_cons_succ]
                  try simp only [List.set_cons_zero]
                  refine wpAnyH_take (i := 12) (v := ?v120) rfl (by kernel_rfl) (by kernel_rfl) (by kernel_rfl) (fun _ _ _ h => h) (Or.inl ⟨by rfl, ?hy120⟩) hHeld ?rest120
                  case hy120 => (intro w hSw; clear hSw; go_simp; try with_reducible rfl)
                  try simp only [List.getElem_toArray]
                  try simp only [List.getElem_cons_succ]
                  try simp only [List.getElem_cons_zero]
                  try simp only [Act.put]
                  try simp only [List.setIfInBounds_toArray]
                  try simp only [List.set_cons_succ]
                  try simp only [List.set_cons_zero]
                  refine wpAnyH_take (i := 13) (v := ?v121) rfl (by kernel_rfl) (by kernel_rfl) (by kernel_rfl) (fun _ _ _ h => h) (Or.inl ⟨by rfl, ?hy121⟩) hHeld ?rest121
                  case hy121 => (intro w hSw; clear hSw; go_simp; try with_reducible rfl)
                  try simp only [List.getElem_toArray]
                  try simp only [List.getElem_cons_succ]
                  try simp only [List.getElem_cons_zero]
                  try simp only [Act.put]
                  try simp only [List.setIfInBounds_toArray]
                  try simp only [List.set_cons_succ]
                  try simp only [List.set_cons_zero]
                  refine wpAnyH_take (i := 14) (v := ?v122) rfl (by kernel_rfl) (by kernel_rfl) (by kernel_rfl) (fun _ _ _ h => h) (Or.inl ⟨by rfl, ?hy122⟩) hHeld ?rest122
                  case hy122 => (intro w hSw; clear hSw; go_simp; try with_reducible rfl)
                  try simp only [List.getElem_toArray]
                  try simp only [List.getElem_cons_succ]
                  try simp only [List.getElem_cons_zero]
                  try simp only [Act.put]
                  try simp only [List.setIfInBounds_toArray]
                  try simp only [List.set_cons_succ]
                  try simp only [List.set_cons_zero]
                  refine wpAnyH_take (i := 15) (v := ?v123) rfl (by kernel_rfl) (by kernel_rfl) (by kernel_rfl) (fun _ _ _ h => h) (Or.inl ⟨by rfl, ?hy123⟩) hHeld ?rest123
                  case hy123 => (intro w hSw; clear hSw; go_simp; try with_reducible rfl)
                  try simp only [List.getElem_toArray]
                  try simp only [List.getElem_cons_succ]
                  try simp only [List.getElem_cons_zero]
                  try simp only [Act.put]
                  try simp only [List.setIfInBounds_toArray]
                  try simp only [List.set_cons_succ]
                  try simp only [List.set_cons_zero]
                  refine wpAnyH_take (i := 16) (v := ?v124) rfl (by kernel_rfl) (by kernel_rfl) (by kernel_rfl) (fun _ _ _ h => h) (Or.inl ⟨by rfl, ?hy124⟩) hHeld ?rest124
                  case hy124 => (intro w hSw; clear hSw; go_simp; try with_reducible rfl)
                  try simp only [List.getElem_toArray]
                  try simp only [List.getElem_cons_succ]
                  try simp only [List.getElem_cons_zero]
                  try simp only [Act.put]
                  try simp only [List.setIfInBounds_toArray]
                  try simp only [List.set_cons_succ]
                  try simp only [List.set_cons_zero]
                  refine wpAnyH_take (i := 17) (v := ?v125) rfl (by kernel_rfl) (by kernel_rfl) (by kernel_rfl) (fun _ _ _ h => h) (Or.inl ⟨by rfl, ?hy125⟩) hHeld ?rest125
                  case hy125 => (intro w hSw; clear hSw; go_simp; try with_reducible rfl)
                  try simp only [List.getElem_toArray]
                  try simp only [List.getElem_cons_succ]
                  try simp only [List.getElem_cons_zero]
                  try simp only [Act.put]
                  try simp only [List.setIfInBounds_toArray]
                  try simp only [List.set_cons_succ]
                  try simp only [List.set_cons_zero]
                  refine wpAnyH_take (i := 18) (v := ?v126) rfl (by kernel_rfl) (by kernel_rfl) (by kernel_rfl) (fun _ _ _ h => h) (Or.inl ⟨by rfl, ?hy126⟩) hHeld ?rest126
                  case hy126 => (intro w hSw; clear hSw; go_simp; try with_reducible rfl)
                  try simp only [List.getElem_toArray]
                  try simp only [List.getElem_cons_succ]
                  try simp only [List.getElem_cons_zero]
                  try simp only [Act.put]
                  try simp only [List.setIfInBounds_toArray]
                  try simp only [List.set_cons_succ]
                  try simp only [List.set_cons_zero]
                  refine wpAnyH_take (i := 19) (v := undef) rfl (by kernel_rfl) (by kernel_rfl) (by kernel_rfl) (fun _ _ _ h => h) (Or.inr ⟨by rfl, rfl⟩) hHeld ?rest127
                  try simp only [List.getElem_toArray]
                  try simp only [List.getElem_cons_succ]
                  try simp only [List.getElem_cons_zero]
                  try simp only [Act.put]
                  try simp only [List.setIfInBounds_toArray]
                  try simp only [List.set_cons_succ]
                  try simp only [List.set_cons_zero]
                  refine wpAnyH_take (i := 20) (v := undef) rfl (by kernel_rfl) (by kernel_rfl) (by kernel_rfl) (fun _ _ _ h => h) (Or.inr ⟨by rfl, rfl⟩) hHeld ?rest128
                  try simp only [List.getElem_toArray]
                  try simp only [List.getElem_cons_succ]
                  try simp only [List.getElem_cons_zero]
                  try simp only [Act.put]
                  try simp only [List.setIfInBounds_toArray]
                  try simp only [List.set_cons_succ]
                  try simp only [List.set_cons_zero]
                  refine wpAnyH_take (i := 21) (v := undef) rfl (by kernel_rfl) (by kernel_rfl) (by kernel_rfl) (fun _ _ _ h => h) (Or.inr ⟨by rfl, rfl⟩) hHeld ?rest129
                  try simp only [List.getElem_toArray]
                  try simp only [List.getElem_cons_succ]
                  try simp only [List.getElem_cons_zero]
                  try simp only [Act.put]
                  try simp only [List.setIfInBounds_toArray]
                  try simp only [List.set_cons_succ]
                  try simp only [List.set_cons_zero]
                  refine wpAnyH_take (i := 22) (v := undef) rfl (by kernel_rfl) (by kernel_rfl) (by kernel_rfl) (fun _ _ _ h => h) (Or.inr ⟨by rfl, rfl⟩) hHeld ?rest130
                  try simp only [List.getElem_toArray]
                  try simp only [List.getElem_cons_succ]
                  try simp only [List.getElem_cons_zero]
                  try simp only [Act.put]
                  try simp only [List.setIfInBounds_toArray]
                  try simp only [List.set_cons_succ]
                  try simp only [List.set_cons_zero]
                  refine wpAnyH_take (i := 23) (v := undef) rfl (by kernel_rfl) (by kernel_rfl) (by kernel_rfl) (fun _ _ _ h => h) (Or.inr ⟨by rfl, rfl⟩) hHeld ?rest131
                  try simp only [List.getElem_toArray]
                  try simp only [List.getElem_cons_succ]
                  try simp only [List.getElem_cons_zero]
                  try simp only [Act.put]
                  try simp only [List.setIfInBounds_toArray]
                  try simp only [List.set_cons_succ]
                  try simp only [List.set_cons_zero]
                  refine wpAnyH_take (i := 24) (v := undef) rfl (by kernel_rfl) (by kernel_rfl) (by kernel_rfl) (fun _ _ _ h => h) (Or.inr ⟨by rfl, rfl⟩) hHeld ?rest132
                  try simp only [List.getElem_toArray]
                  try simp only [List.getElem_cons_succ]
                  try simp only [List.getElem_cons_zero]
                  try simp only [Act.put]
                  try simp only [List.setIfInBounds_toArray]
                  try simp only [List.set_cons_succ]
                  try simp only [List.set_cons_zero]
                  refine wpAnyH_take (i := 25) (v := undef) rfl (by kernel_rfl) (by kernel_rfl) (by kernel_rfl) (fun _ _ _ h => h) (Or.inr ⟨by rfl, rfl⟩) hHeld ?rest133
                  try simp only [List.getElem_toArray]
                  try simp only [List.getElem_cons_succ]
                  try simp only [List.getElem_cons_zero]
                  try simp only [Act.put]
                  try simp only [List.setIfInBounds_toArray]
                  try simp only [List.set_cons_succ]
                  try simp only [List.set_cons_zero]
                  refine wpAnyH_take (i := 26) (v := undef) rfl (by kernel_rfl) (by kernel_rfl) (by kernel_rfl) (fun _ _ _ h => h) (Or.inr ⟨by rfl, rfl⟩) hHeld ?rest134
                  try simp only [List.getElem_toArray]
                  try simp only [List.getElem_cons_succ]
                  try simp only [List.getElem_cons_zero]
                  try simp only [Act.put]
                  try simp only [List.setIfInBounds_toArray]
                  try simp only [List.set_cons_succ]
                  try simp only [List.set_cons_zero]
                  refine wpAnyH_take (i := 27) (v := ?v135) rfl (by kernel_rfl) (by kernel_rfl) (by kernel_rfl) (fun _ _ _ h => h) (Or.inl ⟨by rfl, ?hy135⟩) hHeld ?rest135
                  case hy135 => (intro w hSw; clear hSw; go_simp; try with_reducible rfl)
                  try simp only [List.getElem_toArray]
                  try simp only [List.getElem_cons_succ]
                  try simp only [List.getElem_cons_zero]
                  try simp only [Act.put]
                  try simp only [List.setIfInBounds_toArray]
                  try simp only [List.set_cons_succ]
                  try simp only [List.set_cons_zero]
                  refine wpAnyH_take (i := 28) (v := ?v136) rfl (by kernel_rfl) (by kernel_rfl) (by kernel_rfl) (fun _ _ _ h => h) (Or.inl ⟨by rfl, ?hy136⟩) hHeld ?rest136
                  case hy136 => (intro w hSw; clear hSw; go_simp; try with_reducible rfl)
                  try simp only [List.getElem_toArray]
                  try simp only [List.getElem_cons_succ]
                  try simp only [List.getElem_cons_zero]
                  try simp only [Act.put]
                  try simp only [List.setIfInBounds_toArray]
                  try simp only [List.set_cons_succ]
                  try simp only [List.set_cons_zero]
                  refine wpAnyH_take (i := 29) (v := ?v137) rfl (by kernel_rfl) (by kernel_rfl) (by kernel_rfl) (fun _ _ _ h => h) (Or.inl ⟨by rfl, ?hy137⟩) hHeld ?rest137
                  case hy137 => (intro w hSw; clear hSw; go_simp; try with_reducible rfl)
                  try simp only [List.getElem_toArray]
                  try simp only [List.getElem_cons_succ]
                  try simp only [List.getElem_cons_zero]
                  try simp only [Act.put]
                  try simp only [List.setIfInBounds_toArray]
                  try simp only [List.set_cons_succ]
                  try simp only [List.set_cons_zero]
                  refine wpAnyH_take (i := 30) (v := ?v138) rfl (by kernel_rfl) (by kernel_rfl) (by kernel_rfl) (fun _ _ _ h => h) (Or.inl ⟨by rfl, ?hy138⟩) hHeld ?rest138
                  case hy138 => (intro w hSw; clear hSw; go_simp; try with_reducible rfl)
                  try simp only [List.getElem_toArray]
                  try simp only [List.getElem_cons_succ]
                  try simp only [List.getElem_cons_zero]
                  try simp only [Act.put]
                  try simp only [List.setIfInBounds_toArray]
                  try simp only [List.set_cons_succ]
                  try simp only [List.set_cons_zero]
                  refine wpAnyH_take (i := 31) (v := ?v139) rfl (by kernel_rfl) (by kernel_rfl) (by kernel_rfl) (fun _ _ _ h => h) (Or.inl ⟨by rfl, ?hy139⟩) hHeld ?rest139
                  case hy139 => (intro w hSw; have hc : w.cell? ⟨z, 0, none⟩ = some (.int .u32 (pw.fr : Int)) := (z0.below hSw).cell 0 _ rfl; rw [hw4] at hc; clear hSw; go_simp; try with_reducible rfl)
                  try simp only [List.getElem_toArray]
                  try simp only [List.getElem_cons_succ]
                  try simp only [List.getElem_cons_zero]
                  try simp only [Act.put]
                  try simp only [List.setIfInBounds_toArray]
                  try simp only [List.set_cons_succ]
                  try simp only [List.set_cons_zero]
                  refine wpAnyH_take (i := 32) (v := ?v140) rfl (by kernel_rfl) (by kernel_rfl) (by kernel_rfl) (fun _ _ _ h => h) (Or.inl ⟨by rfl, ?hy140⟩) hHeld ?rest140
                  case hy140 => (intro w hSw; clear hSw; go_simp; try with_reducible rfl)
                  try simp only [List.getElem_toArray]
                  try simp only [List.getElem_cons_succ]
                  try simp only [List.getElem_cons_zero]
                  try simp only [Act.put]
                  try simp only [List.setIfInBounds_toArray]
                  try simp only [List.set_cons_succ]
                  try simp only [List.set_cons_zero]
                  refine wpAnyH_take (i := 33) (v := ?v141) rfl (by kernel_rfl) (by kernel_rfl) (by kernel_rfl) (fun _ _ _ h => h) (Or.inl ⟨by rfl, ?hy141⟩) hHeld ?rest141
                  case hy141 => (intro w hSw; clear hSw; go_simp; try with_reducible rfl)
                  try simp only [List.getElem_toArray]
                  try simp only [List.getElem_cons_succ]
                  try simp only [List.getElem_cons_zero]
                  try simp only [Act.put]
                  try simp only [List.setIfInBounds_toArray]
                  try simp only [List.set_cons_succ]
                  try simp only [List.set_cons_zero]
                  refine wpAnyH_take (i := 34) (v := ?v142) rfl (by kernel_rfl) (by kernel_rfl) (by kernel_rfl) (fun _ _ _ h => h) (Or.inl ⟨by rfl, ?hy142⟩) hHeld ?rest142
                  case hy142 => (intro w hSw; clear hSw; go_simp; try with_reducible rfl)
                  try simp only [List.getElem_toArray]
                  try simp only [List.getElem_cons_succ]
                  try simp only [List.getElem_cons_zero]
                  try simp only [Act.put]
                  try simp only [List.setIfInBounds_toArray]
                  try simp only [List.set_cons_succ]
                  try simp only [List.set_cons_zero]
                  refine wpAnyH_take (i := 35) (v := ?v143) rfl (by kernel_rfl) (by kernel_rfl) (by kernel_rfl) (fun _ _ _ h => h) (Or.inl ⟨by rfl, ?hy143⟩) hHeld ?rest143
                  case hy143 => (intro w hSw; clear hSw; go_simp; try with_reducible rfl)
                  try simp only [List.getElem_toArray]
                  try simp only [List.getElem_cons_succ]
                  try simp only [List.getElem_cons_zero]
                  try simp only [Act.put]
                  try simp only [List.setIfInBounds_toArray]
                  try simp only [List.set_cons_succ]
                  try simp only [List.set_cons_zero]
                  refine wpAnyH_take (i := 36) (v := ?v144) rfl (by kernel_rfl) (by kernel_rfl) (by kernel_rfl) (fun _ _ _ h => h) (Or.inl ⟨by rfl, ?hy144⟩) hHeld ?rest144
                  case hy144 => (intro w hSw; clear hSw; go_simp; try with_reducible rfl)
                  try simp only [List.getElem_toArray]
                  try simp only [List.getElem_cons_succ]
                  try simp only [List.getElem_cons_zero]
                  try simp only [Act.put]
                  try simp only [List.setIfInBounds_toArray]
                  try simp only [List.set_cons_succ]
                  try simp only [List.set_cons_zero]
                  refine wpAnyH_take (i := 37) (v := ?v145) rfl (by kernel_rfl) (by kernel_rfl) (by kernel_rfl) (fun _ _ _ h => h) (Or.inl ⟨by rfl, ?hy145⟩) hHeld ?rest145
                  case hy145 => (intro w hSw; clear hSw; go_simp; try with_reducible rfl)
                  try simp only [List.getElem_toArray]
                  try simp only [List.getElem_cons_succ]
                  try simp only [List.getElem_cons_zero]
                  try simp only [Act.put]
                  try simp only [List.setIfInBounds_toArray]
                  try simp only [List.set_cons_succ]
                  try simp only [List.set_cons_zero]
                  refine wpAnyH_take (i := 38) (v := ?v146) rfl (by kernel_rfl) (by kernel_rfl) (by kernel_rfl) (fun _ _ _ h => h) (Or.inl ⟨by rfl, ?hy146⟩) hHeld ?rest146
                  case hy146 => (intro w hSw; have hc : w.cell? ⟨z, 1, none⟩ = some (.int .u32 (pw.inc : Int)) := (z0.below hSw).cell 1 _ rfl; rw [hw5] at hc; clear hSw; go_simp; try with_reducible rfl)
                  try simp only [List.getElem_toArray]
                  try simp only [List.getElem_cons_succ]
                  try simp only [List.getElem_cons_zero]
                  try simp only [Act.put]
                  try simp only [List.setIfInBounds_toArray]
                  try simp only [List.set_cons_succ]
                  try simp only [List.set_cons_zero]
                  refine wpAnyH_take (i := 39) (v := ?v147) rfl (by kernel_rfl) (by kernel_rfl) (by kernel_rfl) (fun _ _ _ h => h) (Or.inl ⟨by rfl, ?hy147⟩) hHeld ?rest147
                  case hy147 => (intro w hSw; clear hSw; go_simp; try with_reducible rfl)
                  try simp only [List.getElem_toArray]
                  try simp only [List.getElem_cons_succ]
                  try simp only [List.getElem_cons_zero]
                  try simp only [Act.put]
                  try simp only [List.setIfInBounds_toArray]
                  try simp only [List.set_cons_succ]
                  try simp only [List.set_cons_zero]
                  refine wpAnyH_take (i := 40) (v := ?v148) rfl (by kernel_rfl) (by kernel_rfl) (by kernel_rfl) (fun _ _ _ h => h) (Or.inl ⟨by rfl, ?hy148⟩) hHeld ?rest148
                  case hy148 => (intro w hSw; clear hSw; go_simp; try with_reducible rfl)
                  try simp only [List.getElem_toArray]
                  try simp only [List.getElem_cons_succ]
                  try simp only [List.getElem_cons_zero]
                  try simp only [Act.put]
                  try simp only [List.setIfInBounds_toArray]
                  try simp only [List.set_cons_succ]
                  try simp only [List.set_cons_zero]
                  refine wpAnyH_take (i := 41) (v := ?v149) rfl (by kernel_rfl) (by kernel_rfl) (by kernel_rfl) (fun _ _ _ h => h) (Or.inl ⟨by rfl, ?hy149⟩) hHeld ?rest149
                  case hy149 => (intro w hSw; clear hSw; go_simp; try with_reducible rfl)
                  try simp only [List.getElem_toArray]
                  try simp only [List.getElem_cons_succ]
                  try simp only [List.getElem_cons_zero]
                  try simp only [Act.put]
                  try simp only [List.setIfInBounds_toArray]
                  try simp only [List.set_cons_succ]
                  try simp only [List.set_cons_zero]
                  refine wpAnyH_done (by kernel_rfl) ?_ _
                  go_wp2_with fail
                  go_meet
                  exact ⟨rfl, hHeld⟩
              case rest =>
                obtain ⟨rfl, hb⟩ := hcut
                rename World => V6
                clear kf0 g1 g2 g3 z0 hw1 hw2 hw3 hw4 hw5 hlast
                replace v0 := v0.below hb
                replace y0 := y0.below hb
                replace l2 := l2.below hb
                replace hB := hB.trans (hb.mono hB.size)
                clear hb hS
                have hqy : q ≠ y := by omega
                go_upto_region 6 with (first | refine load_blk rfl 35 _ rfl y0 rfl Try.underlying35 rfl sizeCo ?_ | (refine store_part rfl 35 _ _ rfl (off := 0) (cells := coc d2) v0 rfl rfl sizeCo (Nat.le_refl _) (coc_one _) ?_; intro w7 b7 k7; rw [Co.all] at b7; have hB7 : Below w.heap.size w w7 := hB.trans (k7.below1 (by omega) hB.size); have l7 := l2.off k7 (fun p hp => by simp at hp; subst hp; exact Off.li l2 _ (.inl (by omega)))))
                try simp only [Act.put]
                have hO7 : Off a2 S.L q := Off.li l2 _ (.inl (by omega))
                rw [← hd2.out] at b7
                clear v0 y0 l2 hB k7 hd2
                go_wp2_with fail
                exact ⟨⟨i + 1, S.c, S.L, a2, k2, f, by omega, by omega, by go_num, ⟨HJ.out.1, HJ.out.2.1, HJ.out.2.2, fun _ => by rw [Nat.add_sub_cancel]; exact hk⟩, b7, l7.mono (Nat.zero_le _), hO7, hB7⟩, by simp [intOf]; omega⟩
        · have j2 : ¬ (i : Int) < 200 := by omega
          clear v0 lk HI
          go_wp2_with fail
          go_ret
          exact ⟨rfl, hB⟩
      · have j0 : ¬ (i : Int) < (N : Int) := by omega
        clear v0 lk HI
        go_wp2_with fail
        go_ret
        exact ⟨rfl, hB⟩

set_option maxRecDepth 100000 in
theorem lifted (os : Go.Os) (started : os.Started) (H : Type) (enc : TypeId × Value → H) :
    ReturnsInHanded {} Try.checked os 7 .any (Rows.coreAloneSpec.pre6 enc Try.prog Try.f7 Rows.coreAloneRow.domain false) (Rows.coreAloneSpec.post enc Try.prog Try.f7 false true false false) := by
  refine returnsInHanded_of_change_sized (C := Try.checked) own started (by kernel_rfl) Try.func7
    (ChangeSpec.witness6 (enc := enc) (C := Try.checked) false ⟨#[], #[.int .i64 0, .int .u32 0, .slice none 0 0], []⟩ 8 (by kernel_rfl) (by kernel_rfl) (by kernel_rfl) (by kernel_rfl)) ?_
  intro W base args ds gs before hval0 hW hcnd hsz0 _
  have hval : ∀ (j : Nat) t v, Try.f7.params[j]? = some t → args[j]? = some v → Value.okWide Try.prog W .any base t v := hval0
  have hsz : (DataW.weightsEach Try.prog (Try.f7.params.toList ++ Rows.coreAloneSpec.plain.varTypes Try.prog) (ds ++ gs)).all (· ≤ reachBytes) = true := hsz0
  have hW' := hW
  obtain ⟨p, q, hA0, hV, rfl, hfz, hnd⟩ := hW
  have hA : DataW.TrodAll enc Try.prog W 0 (fun _ => true) true Try.f7.params.toList args.toList ds p := hA0
  rw [Try.params7] at hA hval hsz

  obtain ⟨v0, vs0, d0, ds0, p0, q0, hargs, rfl, rfl, h0, r0⟩ := trodAll_cons hA
  obtain ⟨v1, vs1, d1, ds1, p1, q1, rfl, rfl, rfl, h1, r1⟩ := trodAll_cons r0
  obtain ⟨v2, vs2, d2, ds2, p2, q2, rfl, rfl, rfl, h2, r2⟩ := trodAll_cons r1
  obtain ⟨rfl, rfl, rfl⟩ := trodAll_nil r2
  obtain rfl : args = #[v0, v1, v2] := by cases args; simp_all
  obtain ⟨rfl, rfl⟩ := trodVars_none hV
  obtain ⟨a0, rfl, rfl, rfl, w0⟩ := open_int Try.underlying3 (hval 0 3 v0 rfl rfl) h0
  obtain ⟨a1, rfl, rfl, rfl, w1⟩ := open_int Try.underlying22 (hval 1 22 v1 rfl rfl) h1
  obtain ⟨la2, L2, lc2, rfl, lm2, hS2⟩ := open_frs (okWide_slice Try.underlying68 (hval 2 68 v2 rfl rfl)) h2
  have hA2 := hA0
  clear hA0 hval0 hsz0
  simp only [List.append_nil] at hW'
  refine (walk a0 w0 a1 w1 la2 L2 lc2 lm2 W hS2).mono fun e W' ⟨he, bel⟩ => ?_
  subst he
  exact ⟨_, rfl, _, _, _, [], _, [], hW', trodAll_mk1 (shut_bool Try.underlying4 _), (stays_all laidOut bel (by kernel_rfl) hA2), rfl, bel.frame _, fun h => by cases h⟩

theorem over : Rows.coreAloneRow.holds Try.pinned (OpenSpec.ofChange Rows.coreAloneSpec) :=
  OpenClaim.holds_of_wide 7 Try.f7 rfl rfl rfl rfl rfl rfl rfl ⟨rfl, rfl, rfl, rfl, rfl⟩ rfl rfl rfl rfl rfl (by kernel_rfl) Try.func7 (by kernel_rfl)
    (of_decide_eq_true (by kernel_rfl)) (by unfold Func.isWrapper; first | (rw [if_pos (by decide +kernel)]; kernel_rfl) | (rw [if_neg (by decide +kernel)]; exact ⟨rfl, rfl⟩))
    (fun os started H enc _ => lifted os started H enc)

end Go.Proofs.Ythgmecgknhphmaa.coreAlone
namespace Go.Proofs.Ythgmecgknhphmaa

theorem coreAlone_holds : Rows.CoreAloneSaid := coreAlone.over
#print axioms coreAlone_holds

end Go.Proofs.Ythgmecgknhphmaa
