/-
  What a core sends may be sent, whatever it saw, as long as that could be sent, too, and frames that may be; it shows its own incarnation, and what it promised is not below what it installed: the law CorePackets returns true for every input.
  No condition beyond the form's own.
-/
import Derived.Test.YthgmecgknhphmaaRows
import Derived.Test.YthgmecgknhphmaaChM
import Derived.Test.YthgmecgknhphmaaImR
import Derived.WalkKit
import Derived.ProofKit
import Derived.OpenShut
import Derived.ShutString
import Derived.SizedLaws
import Derived.ChangeOld
import Derived.Below
namespace Go.Proofs.Ythgmecgknhphmaa.corePackets
open Go.Sort Go.ChangeShapes Go.WideShapes Go.ChangeAt Go.RowKit
open Go.ChangeMaps (open_string shut_string)
set_option linter.unusedVariables false
set_option maxRecDepth 10000

theorem own : ownKnob Try.prog.godebug = none := by kernel_rfl
theorem length_bytes (s : ByteArray) : s.data.toList.length = s.size := by rw [Array.length_toList]; rfl

def Vw (V : World) (S : Sg) (p8 : Value) (w' : World) : Prop :=
  ∃ y a2 k2, p8 = .pointer (some ⟨y, 0, none⟩) ∧ V.heap.size ≤ y ∧ Blk y (coc (S.c.kp a2 S.L.length k2)) 35 w' ∧ Li Kt.vals V.heap.size a2 S.L w' ∧ Off a2 S.L y ∧ Below V.heap.size V w'
theorem rng_p (x : Ev) {w : World} {b o : Nat} (h : w.rangeAt b o x.vals) : w.rangeAt b (o + 37) (pwl x.p.w) := fun j v hv => by
  have e : x.vals[37 + j]? = (pkl x.p)[j]? := by
    have e1 : x.vals = (.bool x.t :: frv x.f) ++ pkl x.p := rfl
    rw [e1, List.getElem?_append_right (by show 37 ≤ 37 + j; omega)]
    congr 1
    show 37 + j - 37 = j
    omega
  have h2 := h (37 + j) v (by rw [e, pkl_w]; exact hv)
  rw [← Nat.add_assoc] at h2
  exact h2
theorem rng_f (x : Ev) {w : World} {b o : Nat} (h : w.rangeAt b o x.vals) : w.rangeAt b (o + 1) (frv x.f) := fun j v hv => by
  have hj : j < 36 := by
    obtain ⟨h1, _⟩ := List.getElem?_eq_some_iff.1 hv
    exact h1
  have e : x.vals[1 + j]? = (frv x.f)[j]? := by
    have e1 : x.vals = [.bool x.t] ++ (frv x.f ++ pkl x.p) := rfl
    rw [e1, List.getElem?_append_right (by show 1 ≤ 1 + j; omega)]
    rw [List.getElem?_append_left (by show 1 + j - 1 < 36; omega)]
    congr 1
    show 1 + j - 1 = j
    omega
  have h2 := h (1 + j) v (by rw [e]; exact hv)
  rw [← Nat.add_assoc] at h2
  exact h2
theorem load_wrange {P : Program} {ops : Array Oper} {rest : List Oper} {op : Oper} {a : Act} {w : World} {Q : Exit → Act → World → Prop} (hw : Region.wanted op (yielded ops a.tmps) = true) (ty : TypeId) (x : Operand) (ho : op.op = .load ty x)
    {B o : Nat} (cs : List Value) (hr : w.rangeAt B o cs) (hx : a.eval x = .pointer (some ⟨B, o, none⟩)) {d : TypeDesc} (hu : P.underlying ty = some d) (hd : d.isRow = true) (hi : (P.info? ty).map (·.size) = some cs.length)
    (h : wpList P ops Q rest (a.put op.dst (.agg cs.toArray)) w) : wpList P ops Q (op :: rest) a w :=
  wpList_step fun _ hK => by
    rw [if_pos hw]
    exact wp_load_mid ty x ho B o hx cs d hr hu hd hi (hK _ _ h)

set_option maxHeartbeats 16000000 in
theorem walk (sI : Int) (_ws : (Lit.int .i64 sI).wf = true) (la : Option Addr) (L : List Ev) (lc : Nat) (lm : L.length ≤ maxLen) (w : World) (hS0 : Li Ev.vals 0 la L w) :
    Calls Try.prog 8 #[.int .i64 sI, .slice la L.length lc] w fun e w' => e = .returned (.bool true) ∧ Below w.heap.size w w' := by
  have pS := start_ok sI 1 3
  obtain ⟨B, hQ⟩ : ∃ Q, startB sI 1 3 = Q := ⟨_, rfl⟩
  obtain ⟨C0, hC0⟩ : ∃ c, Hid (startC sI 1 3 = c) := ⟨_, rfl⟩
  rw [hQ, hC0.out] at pS
  obtain ⟨N, hN⟩ : ∃ N, L.length = N := ⟨_, rfl⟩
  simp only [maxLen] at lm
  rw [hN] at lm ⊢
  have HN : Hid (L.length = N) := hN
  clear hN
  go_enter Try.func8, Try.ntmps8
  go_wp2_with fail
  refine (pS _).mono ?_
  rintro r w0 ⟨rfl, hB⟩
  clear pS
  have hq0 := hB.size
  have hb := below_box w0 (.cells (coc C0) 35)
  have v0 := blk_new w0 (coc C0) 35
  go_upto_region 2 with (first | refine alloc_zero zeroCo rfl rfl ?_ | refine store_new rfl 35 _ _ rfl (cells := coc C0) rfl rfl sizeCo rfl (coc_one _) ?_)
  try simp only [Act.put, List.setIfInBounds_toArray, List.set_cons_zero, List.set_cons_succ]
  generalize w0.alloc (Obj.cells (coc C0) 35) = W0 at v0 hb ⊢
  replace hB := hB.trans (hb.mono hB.size)
  clear hb 
  generalize w0.heap.size = q at v0 hq0 ⊢
  go_wp2_with fail
  refine (fixed_ok _).mono ?_
  rintro r w2 ⟨rfl, hb⟩
  replace v0 := v0.below hb
  replace hB := hB.trans (hb.mono hB.size)
  clear hb 
  cases B with
  | false =>
    clear v0 hC0
    go_wp2_with fail
    refine (fixed_ok _).mono ?_
    rintro r w9 ⟨rfl, hb⟩
    replace hB := hB.trans (hb.mono hB.size)
    go_wp2_with fail
    go_ret
    exact ⟨rfl, hB⟩
  | true =>
    have hQ' := of_decide_eq_true hQ
    obtain ⟨s, rfl⟩ : ∃ s : Nat, sI = (s : Int) := ⟨sI.toNat, by omega⟩
    have hs : s < 8 := by omega
    have s0 : (s : Int) < 8 := by omega
    have s1 : (0 : Int) ≤ (s : Int) := by omega
    have hws : IntKind.u32.wrap (s : Int) = (s : Int) := by rw [IntKind.wrap_u32]; omega
    have HA : Hid (Iv s 1 C0 ∧ C0.fit ∧ ([] : List Kt).length ≤ 3 * 0 ∧ Ok7 C0 []) := by
      refine ⟨?_, ?_, by simp, ?_⟩
      · rw [← hC0.out]; exact (iv_start s 1 3 hQ).1
      · rw [← hC0.out]; exact fit_start (by omega) 3 hQ
      · rw [← hC0.out, startC, hQ, if_pos rfl]
        refine ⟨?_, ?_, fun k hk => by cases hk⟩
        · show (s : Int).toNat < 8; rw [Int.toNat_natCast]; exact hs
        · show (s : Int).toNat < 8; rw [Int.toNat_natCast]; exact hs
    have hz : Hid (C0.ka = none ∧ C0.kn = 0 ∧ C0.kc = 0) := by show C0.ka = none ∧ C0.kn = 0 ∧ C0.kc = 0; rw [← hC0.out, startC, hQ, if_pos rfl]; exact ⟨rfl, rfl, rfl⟩
    have hkp : C0.kp none ([] : List Kt).length 0 = C0 := by
      have h := kp_self C0 0 hz.out.2.1
      rw [hz.out.1, hz.out.2.2] at h
      exact h
    have v1 : Blk q (coc (C0.kp none ([] : List Kt).length 0)) 35 w2 := by rw [hkp]; exact v0
    clear v0 hC0 hz hQ hQ' hkp
    go_upto_region 5 with fail
    go_loopw [7] (fun iv wr => ∃ (i : Nat) (c : Co) (K : List Kt) (a : Option Addr) (k : Nat), i ≤ N ∧ i ≤ 60 ∧ iv = .int .i64 i ∧ Hid (Iv s 1 c ∧ c.fit ∧ K.length ≤ 3 * i ∧ Ok7 c K) ∧ Blk q (coc (c.kp a K.length k)) 35 wr ∧ Li Kt.vals 0 a K wr ∧ Below w.heap.size w wr) (fun iv _ => 1000 - (intOf iv).toNat)
    case atStart => exact ⟨0, C0, [], none, 0, by omega, by omega, rfl, HA, v1, Li.nil _ _ _, hB⟩
    case round =>
      clear v1 hB HA
      obtain ⟨i, c, K, a, k, hiN, hi2, rfl, HI, v0, lk, hB⟩ := hrel
      rename World => V
      by_cases hjn : i < N
      · have j0 : (i : Int) < (N : Int) := by omega
        by_cases hj2 : i < 60
        · have j2 : (i : Int) < 60 := by omega
          have j1 : (0 : Int) ≤ (i : Int) := by omega
          obtain ⟨x, hk⟩ : ∃ k, L[i]? = some k := ⟨_, List.getElem?_eq_getElem (by rw [HN.out]; exact hjn)⟩
          have hS : Li Ev.vals 0 la L V := hS0.below hB
          obtain ⟨eb, eo, rfl, _, hebl, her⟩ := hS.at Ev.vals_length i x hk
          have her5 := rng_p x her
          have p5 := rpkck_ok x.p.w
          have p4 := rfrck_ok x.f
          obtain ⟨m5, hm5⟩ : ∃ m, x.p.w.may = m := ⟨_, rfl⟩
          obtain ⟨m4, hm4⟩ : ∃ m, frMay x.f = m := ⟨_, rfl⟩
          rw [hm5] at p5
          rw [hm4] at p4
          have HM : Hid (x.may = (m5 && m4)) := by show x.may = _; rw [Ev.may, hm5, hm4]
          clear hm5 hm4 her
          cases m5 with
          | false =>
            rw [if_neg (by simp)] at p5
            clear p4
            go_wp2_with (refine load_range rfl 50 _ rfl (o := eo + i * 182 + 37) (pwl x.p.w) her5 rfl Try.underlying50 rfl sizePk ?_)
            refine (p5 _).mono ?_
            rintro r w3 ⟨rfl, hb⟩
            replace v0 := v0.below hb
            replace lk := lk.below hb
            replace hB := hB.trans (hb.mono hB.size)
            clear hb p5 her5 hS
            go_wp2_with fail
            exact ⟨⟨i + 1, c, K, a, k, by omega, by omega, by go_num, ⟨HI.out.1, HI.out.2.1, by have := HI.out.2.2.1; omega, HI.out.2.2.2⟩, v0, lk, hB⟩, by simp [intOf]; omega⟩
          | true =>
            rw [if_pos rfl] at p5
            go_wp2_with (refine load_range rfl 50 _ rfl (o := eo + i * 182 + 37) (pwl x.p.w) her5 rfl Try.underlying50 rfl sizePk ?_)
            refine (p5 _).mono ?_
            rintro r w3 ⟨rfl, hb⟩
            replace v0 := v0.below hb
            replace lk := lk.below hb
            replace hS := hS.below hb
            replace hB := hB.trans (hb.mono hB.size)
            clear hb p5 her5
            have her4 := rng_f x (hS.rng Ev.vals_length i x hk)
            cases m4 with
            | false =>
              rw [if_neg (by simp)] at p4
              go_wp2_with (refine load_wrange (by rfl) 41 _ rfl (o := eo + i * 182 + 1) (frv x.f) her4 rfl Try.underlying41 rfl sizeFr ?_)
              refine (p4 _).mono ?_
              rintro r w4 ⟨rfl, hb⟩
              replace v0 := v0.below hb
              replace lk := lk.below hb
              replace hB := hB.trans (hb.mono hB.size)
              clear hb p4 her4 hS
              go_wp2_with fail
              exact ⟨⟨i + 1, c, K, a, k, by omega, by omega, by go_num, ⟨HI.out.1, HI.out.2.1, by have := HI.out.2.2.1; omega, HI.out.2.2.2⟩, v0, lk, hB⟩, by simp [intOf]; omega⟩
            | true =>
              rw [if_pos rfl] at p4
              go_wp2_with (refine load_wrange (by rfl) 41 _ rfl (o := eo + i * 182 + 1) (frv x.f) her4 rfl Try.underlying41 rfl sizeFr ?_)
              refine (p4 _).mono ?_
              rintro r w4 ⟨rfl, hb⟩
              replace v0 := v0.below hb
              replace lk := lk.below hb
              replace hS := hS.below hb
              replace hB := hB.trans (hb.mono hB.size)
              clear hb p4 her4
              obtain ⟨hIv, hfit, hlen, hok⟩ := HI.out
              have pt := fun u h => step_ok c K x s hs hIv.self hfit a k (by omega) u h
              have hfit2 := stepS_fit hfit s hs hIv.self K x
              have hlen2 := stepS_len c K x
              have hst := stp_step hs hIv hfit K x
              have hok2 := ok_event hok s hs hIv.self x (by rw [HM.out]; rfl)
              obtain ⟨S, hSS⟩ : ∃ S, stepS c K x = S := ⟨_, rfl⟩
              rw [hSS] at pt hfit2 hlen2 hst hok2
              obtain ⟨e, he⟩ : ∃ e, Hid (c.kp a K.length k = e) := ⟨_, rfl⟩
              rw [he.out] at v0 pt
              have HJ : Hid (Iv s 1 S.c ∧ S.c.fit ∧ S.L.length ≤ 3 * (i + 1) ∧ Ok7 S.c S.L) := ⟨hst.iv, hfit2, by omega, hok2⟩
              have pP := fun a2 k2 u h => cpack_kp S.c S.L s hs hst.iv.self hfit2 a2 k2 (by omega) u h
              have pC := rpkck_ok (packW S.c S.L)
              rw [ok_pack hok2 s hs hst.iv.self, if_pos rfl] at pC
              have HP : Hid ((packW S.c S.L).fr = s ∧ (packW S.c S.L).inc = 1 ∧ (packW S.c S.L).mem s = 1 ∧ (packW S.c S.L).want s = 1 ∧ (packW S.c S.L).pr = S.c.pr ∧ (packW S.c S.L).conf = S.c.conf) := by
                refine ⟨?_, hst.iv.own, hst.iv.mem, hst.iv.want, rfl, rfl⟩
                show S.c.self.toNat = s
                rw [hst.iv.self, Int.toNat_natCast]
              obtain ⟨k1, hk1⟩ : ∃ k, cmpId S.c.pr S.c.conf = k := ⟨_, rfl⟩
              have n1 : ¬ k1 < 0 := by rw [← hk1]; exact fun h => hst.iv.le (cmpId_lt.1 h)
              have r1 := rcmp_ok S.c.pr S.c.conf
              rw [hk1] at r1
              obtain ⟨x1, rfl⟩ : ∃ x : Nat, k1 = (x : Int) := ⟨k1.toNat, by omega⟩
              obtain ⟨P, hP⟩ : ∃ P, packW S.c S.L = P := ⟨_, rfl⟩
              rw [hP] at pC HP
              simp only [hP] at pP
              rw [← HP.out.2.2.2.2.1, ← HP.out.2.2.2.2.2] at r1
              clear n1 hk1 hP hst hfit2 hlen2 hok2 hIv hfit hlen hok hSS HI HM
              go_upto_region 8 with fail
              have hvl := v0.lt
              rename World => V2
              go_cut [8] from 49 to 57 (fun p8 wx => Vw V2 S p8 wx)
              case first =>
                clear HJ r1 HP pC pP
                refine wp_region_held_drew (S := fun w' => Below V2.heap.size V2 w') (by kernel_rfl) (Below.refl _ _).drew (fun hHeld => ?_)
                refine' wpAnyH_take (i := 0) (v := _) rfl (by kernel_rfl) (by kernel_rfl) (by kernel_rfl) (fun _ _ _ h => h) (yieldsIf_load_mid (by rfl) _ _ rfl q 0 rfl (col e) _ ?hS1 Try.underlying35 rfl sizeCo) hHeld ?rest1
                case hS1 => exact fun w h => (v0.below h).whole
                try simp only [List.getElem_toArray]
                try simp only [List.getElem_cons_succ]
                try simp only [List.getElem_cons_zero]
                try simp only [Act.put]
                try simp only [List.setIfInBounds_toArray]
                try simp only [List.set_cons_succ]
                try simp only [List.set_cons_zero]
                refine wpAnyH_take (i := 1) (v := ?v2) rfl (by kernel_rfl) (by kernel_rfl) (by kernel_rfl) (fun _ _ _ h => h) (Or.inl ⟨by rfl, ?hy2⟩) hHeld ?rest2
                case hy2 => (intro w hSw; clear hSw; go_simp; try with_reducible rfl)
                try simp only [List.getElem_toArray]
                try simp only [List.getElem_cons_succ]
                try simp only [List.getElem_cons_zero]
                try simp only [Act.put]
                try simp only [List.setIfInBounds_toArray]
                try simp only [List.set_cons_succ]
                try simp only [List.set_cons_zero]
                refine wpAnyH_take (i := 2) (v := ?v3) rfl (by kernel_rfl) (by kernel_rfl) (by kernel_rfl) (fun _ _ _ h => h) (Or.inl ⟨by rfl, ?hy3⟩) hHeld ?rest3
                case hy3 => (intro w hSw; clear hSw; go_simp; try with_reducible rfl)
                try simp only [List.getElem_toArray]
                try simp only [List.getElem_cons_succ]
                try simp only [List.getElem_cons_zero]
                try simp only [Act.put]
                try simp only [List.setIfInBounds_toArray]
                try simp only [List.set_cons_succ]
                try simp only [List.set_cons_zero]
                refine wpAnyH_take (i := 3) (v := ?v4) rfl (by kernel_rfl) (by kernel_rfl) (by kernel_rfl) (fun _ _ _ h => h) (Or.inl ⟨by rfl, ?hy4⟩) hHeld ?rest4
                case hy4 => (intro w hSw; clear hSw; go_simp; try with_reducible rfl)
                try simp only [List.getElem_toArray]
                try simp only [List.getElem_cons_succ]
                try simp only [List.getElem_cons_zero]
                try simp only [Act.put]
                try simp only [List.setIfInBounds_toArray]
                try simp only [List.set_cons_succ]
                try simp only [List.set_cons_zero]
                refine' wpAnyH_take (i := 4) (v := _) rfl (by kernel_rfl) (by kernel_rfl) (by kernel_rfl) (fun _ _ _ h => h) (yieldsIf_load_mid (by rfl) _ _ rfl eb (eo + i * 182) rfl x.vals _ ?hS5 Try.underlying61 rfl sizeEv) hHeld ?rest5
                case hS5 => exact fun w h => (hS.below h).rng Ev.vals_length i x hk
                try simp only [List.getElem_toArray]
                try simp only [List.getElem_cons_succ]
                try simp only [List.getElem_cons_zero]
                try simp only [Act.put]
                try simp only [List.setIfInBounds_toArray]
                try simp only [List.set_cons_succ]
                try simp only [List.set_cons_zero]
                refine wpAnyH_ready (rs := [5, 9]) (by kernel_rfl) (by simp) ?_
                refine AllReadyH.cons rfl (fun K hK => ?_) (AllReadyH.cons rfl (fun K hK => ?_) (AllReadyH.nil))
                · have hcz := hHeld.size
                  go_simp
                  go_wp2_with (refine (pt _ (lk.below hHeld)).mono ?_; rintro r u1 ⟨⟨a2, k2, ta, tk, rfl, l2, m2⟩, hb⟩)
                  refine hK.out _ _ (hHeld.below hb) (fun hHeld => ?_)
                  clear hK K hb
                  refine wpAnyH_take (i := 6) (v := ?v6) rfl (by kernel_rfl) (by kernel_rfl) (by kernel_rfl) (fun _ _ _ h => h) (Or.inl ⟨by rfl, ?hy6⟩) hHeld ?rest6
                  case hy6 => (intro w hSw; clear hSw; go_simp; try with_reducible rfl)
                  try simp only [List.getElem_toArray]
                  try simp only [List.getElem_cons_succ]
                  try simp only [List.getElem_cons_zero]
                  try simp only [Act.put]
                  try simp only [List.setIfInBounds_toArray]
                  try simp only [List.set_cons_succ]
                  try simp only [List.set_cons_zero]
                  refine wpAnyH_take (i := 7) (v := ?v7) rfl (by kernel_rfl) (by kernel_rfl) (by kernel_rfl) (fun _ _ _ h => h) (Or.inl ⟨by rfl, ?hy7⟩) hHeld ?rest7
                  case hy7 => (intro w hSw; clear hSw; go_simp; try with_reducible rfl)
                  try simp only [List.getElem_toArray]
                  try simp only [List.getElem_cons_succ]
                  try simp only [List.getElem_cons_zero]
                  try simp only [Act.put]
                  try simp only [List.setIfInBounds_toArray]
                  try simp only [List.set_cons_succ]
                  try simp only [List.set_cons_zero]
                  refine wpAnyH_take (i := 8) (v := ?v8) rfl (by kernel_rfl) (by kernel_rfl) (by kernel_rfl) (fun _ _ _ h => h) (Or.inl ⟨by rfl, ?hy8⟩) hHeld ?rest8
                  case hy8 => (intro w hSw; clear hSw; go_simp; try with_reducible rfl)
                  try simp only [List.getElem_toArray]
                  try simp only [List.getElem_cons_succ]
                  try simp only [List.getElem_cons_zero]
                  try simp only [Act.put]
                  try simp only [List.setIfInBounds_toArray]
                  try simp only [List.set_cons_succ]
                  try simp only [List.set_cons_zero]
                  refine wpAnyH_ready (rs := [9]) (by kernel_rfl) (by simp) ?_
                  refine AllReadyH.cons rfl (fun K hK => ?_) (AllReadyH.nil)
                  rw [if_pos (by rfl)]
                  refine wp_alloc_any zeroCo rfl ?_
                  intro yp u2 y0 hb yl yt
                  have yg := Nat.le_trans hHeld.size yl
                  have ho_l2 := Off.li l2 yp (.inr yl)
                  replace l2 := l2.below hb
                  have ho_m2 := Off.li m2 yp (.inr yl)
                  replace m2 := m2.below hb
                  refine hK.out _ _ (hHeld.below hb) (fun hHeld => ?_)
                  clear hK K hb yl yt
                  try simp only [List.getElem_toArray]
                  try simp only [List.getElem_cons_succ]
                  try simp only [List.getElem_cons_zero]
                  try simp only [Act.put]
                  try simp only [List.setIfInBounds_toArray]
                  try simp only [List.set_cons_succ]
                  try simp only [List.set_cons_zero]
                  refine wpAnyH_ready (rs := [10]) (by kernel_rfl) (by simp) ?_
                  refine AllReadyH.cons rfl (fun K hK => ?_) (AllReadyH.nil)
                  rw [if_pos (by rfl)]
                  refine wp_store_all 35 _ _ rfl (cells := (coc (S.c.kp a2 S.L.length k2))) y0 rfl rfl sizeCo rfl (coc_one _) ?_
                  intro u3 hn9 hk9
                  replace y0 := hn9
                  replace l2 := l2.off hk9 (fun q hq => by simp at hq; subst hq; exact ho_l2)
                  replace m2 := m2.off hk9 (fun q hq => by simp at hq; subst hq; exact ho_m2)
                  refine hK.out _ _ (below_kp hHeld hk9 yg) (fun hHeld => ?_)
                  clear hK K hk9 hn9
                  try simp only [List.getElem_toArray]
                  try simp only [List.getElem_cons_succ]
                  try simp only [List.getElem_cons_zero]
                  try simp only [Act.put]
                  try simp only [List.setIfInBounds_toArray]
                  try simp only [List.set_cons_succ]
                  try simp only [List.set_cons_zero]
                  refine wpAnyH_take (i := 11) (v := ?v9) rfl (by kernel_rfl) (by kernel_rfl) (by kernel_rfl) (fun _ _ _ h => h) (Or.inl ⟨by rfl, ?hy9⟩) hHeld ?rest9
                  case hy9 => (intro w hSw; clear hSw; go_simp; try with_reducible rfl)
                  try simp only [List.getElem_toArray]
                  try simp only [List.getElem_cons_succ]
                  try simp only [List.getElem_cons_zero]
                  try simp only [Act.put]
                  try simp only [List.setIfInBounds_toArray]
                  try simp only [List.set_cons_succ]
                  try simp only [List.set_cons_zero]
                  refine wpAnyH_done (by kernel_rfl) ?_ _
                  go_wp2_with fail
                  go_meet
                  exact ⟨yp, a2, k2, rfl, yg, y0, l2.mono (by omega), ho_l2, hHeld⟩
                · rw [if_pos (by rfl)]
                  refine wp_alloc_any zeroCo rfl ?_
                  intro yp u4 y0 hb yl yt
                  have yg := Nat.le_trans hHeld.size yl
                  refine hK.out _ _ (hHeld.below hb) (fun hHeld => ?_)
                  clear hK K hb yl
                  try simp only [List.getElem_toArray]
                  try simp only [List.getElem_cons_succ]
                  try simp only [List.getElem_cons_zero]
                  try simp only [Act.put]
                  try simp only [List.setIfInBounds_toArray]
                  try simp only [List.set_cons_succ]
                  try simp only [List.set_cons_zero]
                  refine wpAnyH_ready (rs := [5]) (by kernel_rfl) (by simp) ?_
                  refine AllReadyH.cons rfl (fun K hK => ?_) (AllReadyH.nil)
                  have hcz := hHeld.size
                  go_simp
                  go_wp2_with (refine (pt _ (lk.below hHeld)).mono ?_; rintro r u5 ⟨⟨a2, k2, ta, tk, rfl, l2, m2⟩, hb⟩)
                  replace y0 := y0.below hb
                  have ho_l2 := Off.li l2 yp (.inl yt)
                  have ho_m2 := Off.li m2 yp (.inl yt)
                  refine hK.out _ _ (hHeld.below hb) (fun hHeld => ?_)
                  clear hK K hb
                  refine wpAnyH_take (i := 6) (v := ?v10) rfl (by kernel_rfl) (by kernel_rfl) (by kernel_rfl) (fun _ _ _ h => h) (Or.inl ⟨by rfl, ?hy10⟩) hHeld ?rest10
                  case hy10 => (intro w hSw; clear hSw; go_simp; try with_reducible rfl)
                  try simp only [List.getElem_toArray]
                  try simp only [List.getElem_cons_succ]
                  try simp only [List.getElem_cons_zero]
                  try simp only [Act.put]
                  try simp only [List.setIfInBounds_toArray]
                  try simp only [List.set_cons_succ]
                  try simp only [List.set_cons_zero]
                  refine wpAnyH_take (i := 7) (v := ?v11) rfl (by kernel_rfl) (by kernel_rfl) (by kernel_rfl) (fun _ _ _ h => h) (Or.inl ⟨by rfl, ?hy11⟩) hHeld ?rest11
                  case hy11 => (intro w hSw; clear hSw; go_simp; try with_reducible rfl)
                  try simp only [List.getElem_toArray]
                  try simp only [List.getElem_cons_succ]
                  try simp only [List.getElem_cons_zero]
                  try simp only [Act.put]
                  try simp only [List.setIfInBounds_toArray]
                  try simp only [List.set_cons_succ]
                  try simp only [List.set_cons_zero]
                  refine wpAnyH_take (i := 8) (v := ?v12) rfl (by kernel_rfl) (by kernel_rfl) (by kernel_rfl) (fun _ _ _ h => h) (Or.inl ⟨by rfl, ?hy12⟩) hHeld ?rest12
                  case hy12 => (intro w hSw; clear hSw; go_simp; try with_reducible rfl)
                  try simp only [List.getElem_toArray]
                  try simp only [List.getElem_cons_succ]
                  try simp only [List.getElem_cons_zero]
                  try simp only [Act.put]
                  try simp only [List.setIfInBounds_toArray]
                  try simp only [List.set_cons_succ]
                  try simp only [List.set_cons_zero]
                  refine wpAnyH_ready (rs := [10]) (by kernel_rfl) (by simp) ?_
                  refine AllReadyH.cons rfl (fun K hK => ?_) (AllReadyH.nil)
                  rw [if_pos (by rfl)]
                  refine wp_store_all 35 _ _ rfl (cells := (coc (S.c.kp a2 S.L.length k2))) y0 rfl rfl sizeCo rfl (coc_one _) ?_
                  intro u6 hn9 hk9
                  replace y0 := hn9
                  replace l2 := l2.off hk9 (fun q hq => by simp at hq; subst hq; exact ho_l2)
                  replace m2 := m2.off hk9 (fun q hq => by simp at hq; subst hq; exact ho_m2)
                  refine hK.out _ _ (below_kp hHeld hk9 yg) (fun hHeld => ?_)
                  clear hK K hk9 hn9
                  try simp only [List.getElem_toArray]
                  try simp only [List.getElem_cons_succ]
                  try simp only [List.getElem_cons_zero]
                  try simp only [Act.put]
                  try simp only [List.setIfInBounds_toArray]
                  try simp only [List.set_cons_succ]
                  try simp only [List.set_cons_zero]
                  refine wpAnyH_take (i := 11) (v := ?v13) rfl (by kernel_rfl) (by kernel_rfl) (by kernel_rfl) (fun _ _ _ h => h) (Or.inl ⟨by rfl, ?hy13⟩) hHeld ?rest13
                  case hy13 => (intro w hSw; clear hSw; go_simp; try with_reducible rfl)
                  try simp only [List.getElem_toArray]
                  try simp only [List.getElem_cons_succ]
                  try simp only [List.getElem_cons_zero]
                  try simp only [Act.put]
                  try simp only [List.setIfInBounds_toArray]
                  try simp only [List.set_cons_succ]
                  try simp only [List.set_cons_zero]
                  refine wpAnyH_done (by kernel_rfl) ?_ _
                  go_wp2_with fail
                  go_meet
                  exact ⟨yp, a2, k2, rfl, yg, y0, l2.mono (by omega), ho_l2, hHeld⟩
              case rest =>
                obtain ⟨y, a2, k2, rfl, hyg, y0, l2, ho1, hb⟩ := hcut
                rename World => V3
                clear pt lk hS
                have holq : Off a2 S.L q := Off.li l2 _ (.inl (by omega))
                replace l2 := l2.mono (Nat.zero_le _)
                replace v0 := v0.below hb
                replace hB := hB.trans (hb.mono hB.size)
                clear hb 
                have pP2 := pP a2 k2
                obtain ⟨d, hd⟩ : ∃ d, Hid (S.c.kp a2 S.L.length k2 = d) := ⟨_, rfl⟩
                rw [hd.out] at y0 pP2
                clear pP
                go_wp2_with (refine load_blk rfl 35 _ rfl y0 rfl Try.underlying35 rfl sizeCo ?_)
                refine (pP2 _ l2).mono ?_
                rintro r w5 ⟨rfl, hb⟩
                clear pP2
                have hyl := y0.lt
                replace v0 := v0.below hb
                replace y0 := y0.below hb
                replace l2 := l2.below hb
                replace hB := hB.trans (hb.mono hB.size)
                clear hb 
                have hb := below_box w5 (.cells (pwc P) 50)
                have x0 := blk_new w5 (pwc P) 50
                go_upto_region 10 with (first | refine alloc_zero zeroPw rfl rfl ?_ | refine store_new rfl 50 _ _ rfl (cells := pwc P) rfl rfl sizePk rfl (pwc_one _) ?_)
                try simp only [Act.put, List.setIfInBounds_toArray, List.set_cons_zero, List.set_cons_succ]
                generalize w5.alloc (Obj.cells (pwc P) 50) = W5 at x0 hb ⊢
                replace v0 := v0.below hb
                replace y0 := y0.below hb
                replace l2 := l2.below hb
                replace hB := hB.trans (hb.mono hB.size)
                clear hb 
                generalize w5.heap.size = z at x0 ⊢
                go_wp2_with (refine load_blk rfl 50 _ rfl x0 rfl Try.underlying50 rfl sizePk ?_)
                refine (pC _).mono ?_
                rintro r w6 ⟨rfl, hb⟩
                replace v0 := v0.below hb
                replace y0 := y0.below hb
                replace l2 := l2.below hb
                replace x0 := x0.below hb
                replace hB := hB.trans (hb.mono hB.size)
                clear hb pC
                have c0 : w6.cell? ⟨z, 0, none⟩ = some (.int .u32 (s : Int)) := (x0.cell 0 (.int .u32 (P.fr : Int)) rfl).trans (by rw [HP.out.1])
                have c1 : w6.cell? ⟨z, 1, none⟩ = some (.int .u32 1) := (x0.cell 1 (.int .u32 (P.inc : Int)) rfl).trans (by rw [HP.out.2.1]; rfl)
                have g0 : ((s : Int) != (s : Int)) = false := by simp
                go_wp2_with (first | refine load_wpart rfl 27 _ rfl (o := 21) x0 rfl P.pr.vals P.p_pr Try.underlying27 rfl sizeIdn ?_ | refine load_wpart rfl 27 _ rfl (o := 2) x0 rfl P.conf.vals P.p_conf Try.underlying27 rfl sizeIdn ?_)
                refine (r1 _).mono ?_
                rintro r w7 ⟨rfl, hb⟩
                replace v0 := v0.below hb
                replace y0 := y0.below hb
                replace l2 := l2.below hb
                replace x0 := x0.below hb
                replace hB := hB.trans (hb.mono hB.size)
                clear hb r1 c0 c1 g0
                have q1 : (0 : Int) ≤ (x1 : Int) := by omega
                have q1' : ¬ (x1 : Int) < 0 := by omega
                have c0 : w7.cell? ⟨z, 5 + s, none⟩ = some (.int .u32 1) := (x0.cell (5 + s) _ (P.get_mem s hs)).trans (by rw [HP.out.2.2.1]; rfl)
                have c1 : w7.cell? ⟨z, 24 + s, none⟩ = some (.int .u32 1) := (x0.cell (24 + s) _ (P.get_want s hs)).trans (by rw [HP.out.2.2.2.1]; rfl)
                go_upto_region 12 with fail
                clear c0 c1 q1 q1' x0 HP
                have hqy : q ≠ y := by omega
                go_wp2_with (first | refine load_blk rfl 35 _ rfl y0 rfl Try.underlying35 rfl sizeCo ?_ | (refine store_part rfl 35 _ _ rfl (off := 0) (cells := coc d) v0 rfl rfl sizeCo (Nat.le_refl _) (coc_one _) ?_; intro w8 b8 k8; rw [Co.all] at b8))
                replace l2 := l2.off k8 (fun p hp => by simp at hp; subst hp; exact holq)
                replace hB := hB.trans (k8.below1 (by omega) hB.size)
                rw [← hd.out] at b8
                exact ⟨⟨i + 1, S.c, S.L, a2, k2, by omega, by omega, by go_num, HJ, b8, l2, hB⟩, by simp [intOf]; omega⟩
        · have j2 : ¬ (i : Int) < 60 := by omega
          clear lk HI v0
          go_wp2_with fail
          go_ret
          exact ⟨rfl, hB⟩
      · have j0 : ¬ (i : Int) < (N : Int) := by omega
        clear lk HI v0
        go_wp2_with fail
        go_ret
        exact ⟨rfl, hB⟩

set_option maxRecDepth 100000 in
theorem lifted (os : Go.Os) (started : os.Started) (H : Type) (enc : TypeId × Value → H) :
    ReturnsInHanded {} Try.checked os 8 .any (Rows.corePacketsSpec.pre6 enc Try.prog Try.f8 Rows.corePacketsRow.domain false) (Rows.corePacketsSpec.post enc Try.prog Try.f8 false true false false) := by
  refine returnsInHanded_of_change_sized (C := Try.checked) own started (by kernel_rfl) Try.func8
    (ChangeSpec.witness6 (enc := enc) (C := Try.checked) false ⟨#[], #[.int .i64 0, .slice none 0 0], []⟩ 8 (by kernel_rfl) (by kernel_rfl) (by kernel_rfl) (by kernel_rfl)) ?_
  intro W base args ds gs before hval0 hW hcnd hsz0 _
  have hval : ∀ (j : Nat) t v, Try.f8.params[j]? = some t → args[j]? = some v → Value.okWide Try.prog W .any base t v := hval0
  have hsz : (DataW.weightsEach Try.prog (Try.f8.params.toList ++ Rows.corePacketsSpec.plain.varTypes Try.prog) (ds ++ gs)).all (· ≤ reachBytes) = true := hsz0
  have hW' := hW
  obtain ⟨p, q, hA0, hV, rfl, hfz, hnd⟩ := hW
  have hA : DataW.TrodAll enc Try.prog W 0 (fun _ => true) true Try.f8.params.toList args.toList ds p := hA0
  rw [Try.params8] at hA hval hsz

  obtain ⟨v0, vs0, d0, ds0, p0, q0, hargs, rfl, rfl, h0, r0⟩ := trodAll_cons hA
  obtain ⟨v1, vs1, d1, ds1, p1, q1, rfl, rfl, rfl, h1, r1⟩ := trodAll_cons r0
  obtain ⟨rfl, rfl, rfl⟩ := trodAll_nil r1
  obtain rfl : args = #[v0, v1] := by cases args; simp_all
  obtain ⟨rfl, rfl⟩ := trodVars_none hV
  obtain ⟨a0, rfl, rfl, rfl, w0⟩ := open_int Try.underlying3 (hval 0 3 v0 rfl rfl) h0
  obtain ⟨la1, L1, lc1, rfl, lm1, hS1⟩ := open_evs (okWide_slice Try.underlying57 (hval 1 57 v1 rfl rfl)) h1
  have hA2 := hA0
  clear hA0 hval0 hsz0
  simp only [List.append_nil] at hW'
  refine (walk a0 w0 la1 L1 lc1 lm1 W hS1).mono fun e W' ⟨he, bel⟩ => ?_
  subst he
  exact ⟨_, rfl, _, _, _, [], _, [], hW', trodAll_mk1 (shut_bool Try.underlying4 _), (stays_all laidOut bel (by kernel_rfl) hA2), rfl, bel.frame _, fun h => by cases h⟩

theorem over : Rows.corePacketsRow.holds Try.pinned (OpenSpec.ofChange Rows.corePacketsSpec) :=
  OpenClaim.holds_of_wide 8 Try.f8 rfl rfl rfl rfl rfl rfl rfl ⟨rfl, rfl, rfl, rfl, rfl⟩ rfl rfl rfl rfl rfl (by kernel_rfl) Try.func8 (by kernel_rfl)
    (of_decide_eq_true (by kernel_rfl)) (by unfold Func.isWrapper; first | (rw [if_pos (by decide +kernel)]; kernel_rfl) | (rw [if_neg (by decide +kernel)]; exact ⟨rfl, rfl⟩))
    (fun os started H enc _ => lifted os started H enc)

end Go.Proofs.Ythgmecgknhphmaa.corePackets
namespace Go.Proofs.Ythgmecgknhphmaa

theorem corePackets_holds : Rows.CorePacketsSaid := corePackets.over
#print axioms corePackets_holds

end Go.Proofs.Ythgmecgknhphmaa
