/-
  A core goes on with what it promised, as the document's own call says (congressref13.goOn).
  What it tells takes no more bytes than a list may.
-/
import Derived.Test.YthgmecgknhphmaaCfA
import Derived.Test.YthgmecgknhphmaaCeW
import Derived.Test.YthgmecgknhphmaaCeZ
import Derived.Test.YthgmecgknhphmaaGaH
import Derived.Test.YthgmecgknhphmaaGaI
namespace Go.Proofs.Ythgmecgknhphmaa
set_option maxRecDepth 10000
set_option linter.unusedSimpArgs false
open Go.RowKit Go.Sort
set_option linter.unusedVariables false

theorem name_blk {z : Nat} {c : Co} {v : Value} {T : TypeId} {w : World} (b : Blk z (unc c v) T w) : ∃ d, Hid (c = d) ∧ Blk z (unc d v) T w := ⟨c, rfl, b⟩
/- A core with what it tells, as the document hands it on: told lies in blocks from B on. -/
def Rv (P : List Nat) (B : Nat) (s : Sg) (v : Value) (w : World) : Prop :=
  ∃ a k ta tk, v = .agg (unc (s.c.kp a s.L.length k) (.slice ta s.t.length tk)) ∧ Li Kt.vals 0 a s.L w ∧ Lg Hp.vals 50 66 B ta tk s.t w ∧ (∀ g ∈ blkOf ta, Off a s.L g) ∧ ∀ p ∈ P, Off a s.L p
theorem Rv.sim {P : List Nat} {B : Nat} {s u : Sg} {v : Value} {w : World} (h : Rv P B s v w) (hs : Sg.sim s u) : Rv P B u v w := by
  obtain ⟨a, k, ta, tk, h1, h2, h3, h5, h6⟩ := h
  obtain ⟨e1, e2, e3⟩ := hs
  rw [e1, e2, e3] at h1
  rw [e2] at h2 h5 h6
  rw [e3] at h3
  exact ⟨a, k, ta, tk, h1, h2, h3, h5, h6⟩
theorem Rv.open {P : List Nat} {B : Nat} {s : Sg} {v : Value} {w : World} (h : Rv P B s v w) : ∃ c ta tk, c.kn = s.L.length ∧ (∀ a n k, c.kp a n k = s.c.kp a n k) ∧ v = .agg (unc c (.slice ta s.t.length tk)) ∧ Li Kt.vals 0 c.ka s.L w ∧ Lg Hp.vals 50 66 B ta tk s.t w ∧ (∀ g ∈ blkOf ta, Off c.ka s.L g) ∧ ∀ p ∈ P, Off c.ka s.L p := by
  obtain ⟨a, k, ta, tk, h1, h2, h3, h5, h6⟩ := h
  exact ⟨s.c.kp a s.L.length k, ta, tk, rfl, fun _ _ _ => rfl, h1, h2, h3, h5, h6⟩
theorem Rv.below {P : List Nat} {B : Nat} {s : Sg} {v : Value} {w w' : World} (h : Rv P B s v w) (hb : Below w.heap.size w w') : Rv P B s v w' := by
  obtain ⟨a, k, ta, tk, h1, h2, h3, h5, h6⟩ := h
  exact ⟨a, k, ta, tk, h1, h2.below hb, h3.below hb, h5, h6⟩

set_option maxHeartbeats 8000000 in
theorem rgoOn_ok (P : List Nat) (B : Nat) (s : Sg) (v : Value) (ht : (s.t.length + 1) * 408 ≤ 140737488355328) (w : World) (hBw : B ≤ w.heap.size) (hR : Rv P B s v w) :
    Calls Try.prog 38 #[v] w fun e w' => ∃ v', e = .returned v' ∧ Rv P B (goOnS s) v' w' ∧ Below B w w' := by
  obtain ⟨iI, zI, hI, hz0, hsz, hby, hzs⟩ := infoHp
  obtain ⟨c0, L, Hs⟩ := s
  obtain ⟨c, ta, tk, hn, hsim, rfl, hL, hG, hO2, hO6⟩ := hR.open
  clear hR
  replace hn : c.kn = L.length := hn
  replace hL : Li Kt.vals 0 c.ka L w := hL
  replace hG : Lg Hp.vals 50 66 B ta tk Hs w := hG
  replace hO2 : ∀ g ∈ blkOf ta, Off c.ka L g := hO2
  replace hO6 : ∀ p ∈ P, Off c.ka L p := hO6
  replace ht : (Hs.length + 1) * 408 ≤ 140737488355328 := ht
  have hin := hG.in
  show Calls Try.prog 38 #[.agg (unc c (.slice ta Hs.length tk))] w _
  have HS : Hid (Sg.sim (goOnS ⟨c, L, Hs⟩) (goOnS ⟨c0, L, Hs⟩)) := goOn_sim hsim L Hs
  have hka : (readyC c).ka = c.ka ∧ (readyC c).kn = c.kn ∧ (readyC c).kc = c.kc := by unfold readyC; split <;> exact ⟨rfl, rfl, rfl⟩
  have fin_no : ∀ u, Below w.heap.size w u → insB (readyC c) = false → Rv P B (goOnS ⟨c0, L, Hs⟩) (.agg (unc (readyC c) (.slice ta Hs.length tk))) u ∧ Below B w u := by
    intro u hb hi
    refine ⟨Rv.sim ?_ HS.out, hb.mono hBw⟩
    have e : goOnS ⟨c, L, Hs⟩ = ⟨readyC c, L, Hs⟩ := by rw [goOnS, hi]; rfl
    rw [e]
    refine ⟨c.ka, c.kc, ta, tk, ?_, hL.below hb, hG.below hb, hO2, hO6⟩
    have e2 : (readyC c).kp c.ka L.length c.kc = readyC c := by rw [← hka.1, ← hka.2.2]; exact kp_self _ _ (hka.2.1.trans hn)
    show _ = Value.agg (unc ((readyC c).kp c.ka L.length c.kc) _)
    rw [e2]
  have fin_yes : ∀ u td tj d, (instC (readyC c)).kp none 0 0 = d → Lg Hp.vals 50 66 B td tj (Hs ++ [viewH (readyC c)]) u → Below B w u → insB (readyC c) = true → Rv P B (goOnS ⟨c0, L, Hs⟩) (.agg (unc d (.slice td (Hs.length + 1) tj))) u ∧ Below B w u := by
    intro u td tj d hd hg hb hi
    refine ⟨Rv.sim ?_ HS.out, hb⟩
    have e : goOnS ⟨c, L, Hs⟩ = ⟨instC (readyC c), [], Hs ++ [viewH (readyC c)]⟩ := by rw [goOnS, hi]; rfl
    rw [e]
    refine ⟨none, 0, td, tj, ?_, Li.nil _ _ _, hg, fun g _ => Off.nil _ _, fun p _ => Off.nil _ _⟩
    show _ = Value.agg (unc ((instC (readyC c)).kp none 0 0) (.slice td (Hs ++ [viewH (readyC c)]).length tj))
    rw [hd, List.length_append]
    rfl
  have pa := rall_ok c
  have pt := rtarget_ok c
  have pw := rwithin_ok (targC c) c.count
  obtain ⟨t, hpt⟩ : ∃ t, Idn.same c.pr c.conf = t := ⟨_, rfl⟩
  have hg : gathB c = !t := by rw [gathB, hpt]
  obtain ⟨rr, hr⟩ : ∃ t, c.rdy = t := ⟨_, rfl⟩
  obtain ⟨A, hA⟩ : ∃ t, allB c = t := ⟨_, rfl⟩
  obtain ⟨Wn, hWn⟩ : ∃ t, withB (targC c) c.count = t := ⟨_, rfl⟩
  obtain ⟨R, HR⟩ : ∃ t, Hid (rdyB c = t) := ⟨_, rfl⟩
  have hR : R = (!t && !rr && A && Wn) := by rw [← HR.out, rdyB, hg, hr, hA, hWn]
  have kI : ∀ w, (binOp .eql 27 (.agg c.pr.vals.toArray) (.agg c.conf.vals.toArray)).run Try.prog w = .ok (.bool t) w := eqlIdn _ _ t hpt
  rw [hA] at pa
  rw [hWn] at pw
  obtain ⟨q0, a1, hB⟩ := two_blk (T0 := 83) (T1 := 83) (C0 := unc c (.slice ta Hs.length tk)) (C1 := unc Co.zero (.slice none 0 0)) (w := w) rfl
  clear hA hWn hL hO2 hO6 HS hsim hpt
  go_enter Try.func38, Try.ntmps38
  go_upto_region 1 with (go_big_may; refine alloc_zero zeroSg rfl rfl ?_)
  try simp only [Act.put, List.setIfInBounds_toArray, List.set_cons_zero, List.set_cons_succ]
  try simp only [alloc_size]
  generalize (w.alloc (Obj.cells (unc c (.slice ta Hs.length tk)) 83)).alloc (Obj.cells (unc Co.zero (.slice none 0 0)) 83) = W at q0 a1 hB ⊢
  obtain ⟨z, hz⟩ : ∃ z, w.heap.size = z := ⟨_, rfl⟩
  rw [hz] at q0 a1 ⊢
  cases t with
  | true =>
    have hg0 : gathB c = false := by rw [hg]; rfl
    have e1 : readyC c = c := by rw [readyC, rdyB, hg0]; rfl
    have HI : Hid (insB c = false) := by show insB c = false; rw [insB, hg0]; rfl
    rw [e1] at fin_no
    clear fin_yes pa pt pw hR HR e1 hg0 hg
    go_upto_region 2 with (go_big_may; first | refine load_part rfl 27 _ rfl (o := 40) q0 rfl c.pr.vals (un_pr _ _) Try.underlying27 rfl sizeIdn ?_ | refine load_part rfl 27 _ rfl (o := 20) q0 rfl c.conf.vals (un_conf _ _) Try.underlying27 rfl sizeIdn ?_)
    go_wp2_with (first | refine load_blk rfl 83 _ rfl q0 rfl Try.underlying83 rfl sizeSg ?_ | (refine store_part rfl 83 _ _ rfl (off := 0) (cells := unc c (.slice ta Hs.length tk)) a1 rfl rfl sizeSg (Nat.le_refl _) (unc_one _ _ _ _) ?_; intro w9 b9 k9; rw [unc_all] at b9))
    exact bodyPost_ret (w := w9) (v := .agg (unc c (.slice ta Hs.length tk))) (ret_one rfl rfl b9 Try.underlying83 rfl sizeSg) rfl ⟨_, rfl, fin_no _ (hB.trans (k9.below1 (by omega) hB.size)) HI.out⟩
  | false =>
    have hg1 : Hid (gathB c = true) := by show gathB c = true; rw [hg]; rfl
    go_upto_region 3 with (go_big_may; first | refine load_part rfl 27 _ rfl (o := 40) q0 rfl c.pr.vals (un_pr _ _) Try.underlying27 rfl sizeIdn ?_ | refine load_part rfl 27 _ rfl (o := 20) q0 rfl c.conf.vals (un_conf _ _) Try.underlying27 rfl sizeIdn ?_)
    clear hg kI
    go_cut [28] from 11 to 27 (fun v wx => v = .bool R ∧ Below W.heap.size W wx)
    case first =>
      clear fin_no fin_yes hin
      cases rr with
      | true =>
        obtain rfl : R = false := by rw [hR]; rfl
        clear hR HR pa pt pw
        refine wp_region_held_drew (S := fun w' => Below W.heap.size W w') (by kernel_rfl) (Below.refl _ _).drew (fun hHeld => ?_)
        refine tkH 0 (v := ?v1) rfl (by kernel_rfl) (fun _ _ _ h => h) (Or.inl ⟨by rfl, ?hy1⟩) hHeld ?rest1
        case hy1 => (intro w hSw; clear hSw; go_simp; try with_reducible rfl)
        try simp only [List.getElem_toArray, List.getElem_cons_succ, List.getElem_cons_zero, Act.put, List.setIfInBounds_toArray, List.set_cons_succ, List.set_cons_zero]
        refine tkH 1 (v := ?v2) rfl (by kernel_rfl) (fun _ _ _ h => h) (Or.inl ⟨by rfl, ?hy2⟩) hHeld ?rest2
        case hy2 => (intro w hSw; clear hSw; go_simp; try with_reducible rfl)
        try simp only [List.getElem_toArray, List.getElem_cons_succ, List.getElem_cons_zero, Act.put, List.setIfInBounds_toArray, List.set_cons_succ, List.set_cons_zero]
        refine tkH 2 (v := ?v3) rfl (by kernel_rfl) (fun _ _ _ h => h) (Or.inl ⟨by rfl, ?hy3⟩) hHeld ?rest3
        case hy3 => (intro w hSw; have hc : w.cell? ⟨z, 59, none⟩ = some (.bool true) := ((q0.below hSw).cell 59 (.bool c.rdy) rfl).trans (by rw [hr]); clear hSw; go_simp; try with_reducible rfl)
        try simp only [List.getElem_toArray, List.getElem_cons_succ, List.getElem_cons_zero, Act.put, List.setIfInBounds_toArray, List.set_cons_succ, List.set_cons_zero]
        refine tkH 3 (v := ?v4) rfl (by kernel_rfl) (fun _ _ _ h => h) (Or.inl ⟨by rfl, ?hy4⟩) hHeld ?rest4
        case hy4 => (intro w hSw; clear hSw; go_simp; try with_reducible rfl)
        try simp only [List.getElem_toArray, List.getElem_cons_succ, List.getElem_cons_zero, Act.put, List.setIfInBounds_toArray, List.set_cons_succ, List.set_cons_zero]
        refine tkH 4 (v := ?v5) rfl (by kernel_rfl) (fun _ _ _ h => h) (Or.inl ⟨by rfl, ?hy5⟩) hHeld ?rest5
        case hy5 => (intro w hSw; clear hSw; go_simp; try with_reducible rfl)
        try simp only [List.getElem_toArray, List.getElem_cons_succ, List.getElem_cons_zero, Act.put, List.setIfInBounds_toArray, List.set_cons_succ, List.set_cons_zero]
        refine tkH 5 (v := undef) rfl (by kernel_rfl) (fun _ _ _ h => h) (Or.inr ⟨by rfl, rfl⟩) hHeld ?rest6
        try simp only [List.getElem_toArray, List.getElem_cons_succ, List.getElem_cons_zero, Act.put, List.setIfInBounds_toArray, List.set_cons_succ, List.set_cons_zero]
        refine tkH 6 (v := undef) rfl (by kernel_rfl) (fun _ _ _ h => h) (Or.inr ⟨by rfl, rfl⟩) hHeld ?rest7
        try simp only [List.getElem_toArray, List.getElem_cons_succ, List.getElem_cons_zero, Act.put, List.setIfInBounds_toArray, List.set_cons_succ, List.set_cons_zero]
        refine tkH 7 (v := undef) rfl (by kernel_rfl) (fun _ _ _ h => h) (Or.inr ⟨by rfl, rfl⟩) hHeld ?rest8
        try simp only [List.getElem_toArray, List.getElem_cons_succ, List.getElem_cons_zero, Act.put, List.setIfInBounds_toArray, List.set_cons_succ, List.set_cons_zero]
        refine tkH 8 (v := ?v9) rfl (by kernel_rfl) (fun _ _ _ h => h) (Or.inl ⟨by rfl, ?hy9⟩) hHeld ?rest9
        case hy9 => (intro w hSw; clear hSw; go_simp; try with_reducible rfl)
        try simp only [List.getElem_toArray, List.getElem_cons_succ, List.getElem_cons_zero, Act.put, List.setIfInBounds_toArray, List.set_cons_succ, List.set_cons_zero]
        refine tkH 9 (v := ?v10) rfl (by kernel_rfl) (fun _ _ _ h => h) (Or.inl ⟨by rfl, ?hy10⟩) hHeld ?rest10
        case hy10 => (intro w hSw; clear hSw; go_simp; try with_reducible rfl)
        try simp only [List.getElem_toArray, List.getElem_cons_succ, List.getElem_cons_zero, Act.put, List.setIfInBounds_toArray, List.set_cons_succ, List.set_cons_zero]
        refine tkH 10 (v := undef) rfl (by kernel_rfl) (fun _ _ _ h => h) (Or.inr ⟨by rfl, rfl⟩) hHeld ?rest11
        try simp only [List.getElem_toArray, List.getElem_cons_succ, List.getElem_cons_zero, Act.put, List.setIfInBounds_toArray, List.set_cons_succ, List.set_cons_zero]
        refine tkH 11 (v := undef) rfl (by kernel_rfl) (fun _ _ _ h => h) (Or.inr ⟨by rfl, rfl⟩) hHeld ?rest12
        try simp only [List.getElem_toArray, List.getElem_cons_succ, List.getElem_cons_zero, Act.put, List.setIfInBounds_toArray, List.set_cons_succ, List.set_cons_zero]
        refine tkH 12 (v := undef) rfl (by kernel_rfl) (fun _ _ _ h => h) (Or.inr ⟨by rfl, rfl⟩) hHeld ?rest13
        try simp only [List.getElem_toArray, List.getElem_cons_succ, List.getElem_cons_zero, Act.put, List.setIfInBounds_toArray, List.set_cons_succ, List.set_cons_zero]
        refine tkH 13 (v := undef) rfl (by kernel_rfl) (fun _ _ _ h => h) (Or.inr ⟨by rfl, rfl⟩) hHeld ?rest14
        try simp only [List.getElem_toArray, List.getElem_cons_succ, List.getElem_cons_zero, Act.put, List.setIfInBounds_toArray, List.set_cons_succ, List.set_cons_zero]
        refine tkH 14 (v := undef) rfl (by kernel_rfl) (fun _ _ _ h => h) (Or.inr ⟨by rfl, rfl⟩) hHeld ?rest15
        try simp only [List.getElem_toArray, List.getElem_cons_succ, List.getElem_cons_zero, Act.put, List.setIfInBounds_toArray, List.set_cons_succ, List.set_cons_zero]
        refine tkH 15 (v := undef) rfl (by kernel_rfl) (fun _ _ _ h => h) (Or.inr ⟨by rfl, rfl⟩) hHeld ?rest16
        try simp only [List.getElem_toArray, List.getElem_cons_succ, List.getElem_cons_zero, Act.put, List.setIfInBounds_toArray, List.set_cons_succ, List.set_cons_zero]
        refine tkH 16 (v := undef) rfl (by kernel_rfl) (fun _ _ _ h => h) (Or.inr ⟨by rfl, rfl⟩) hHeld ?rest17
        try simp only [List.getElem_toArray, List.getElem_cons_succ, List.getElem_cons_zero, Act.put, List.setIfInBounds_toArray, List.set_cons_succ, List.set_cons_zero]
        refine tkH 17 (v := ?v18) rfl (by kernel_rfl) (fun _ _ _ h => h) (Or.inl ⟨by rfl, ?hy18⟩) hHeld ?rest18
        case hy18 => (intro w hSw; clear hSw; go_simp; try with_reducible rfl)
        try simp only [List.getElem_toArray, List.getElem_cons_succ, List.getElem_cons_zero, Act.put, List.setIfInBounds_toArray, List.set_cons_succ, List.set_cons_zero]
        refine wpAnyH_done (by kernel_rfl) ?_ _
        go_wp2_with fail
        go_meet
        exact ⟨rfl, hHeld⟩
      | false =>
        cases A with
        | false =>
          obtain rfl : R = false := by rw [hR]; rfl
          clear hR HR pt pw
          refine wp_region_held_drew (S := fun w' => Below W.heap.size W w') (by kernel_rfl) (Below.refl _ _).drew (fun hHeld => ?_)
          refine tkH 0 (v := ?v19) rfl (by kernel_rfl) (fun _ _ _ h => h) (Or.inl ⟨by rfl, ?hy19⟩) hHeld ?rest19
          case hy19 => (intro w hSw; clear hSw; go_simp; try with_reducible rfl)
          try simp only [List.getElem_toArray, List.getElem_cons_succ, List.getElem_cons_zero, Act.put, List.setIfInBounds_toArray, List.set_cons_succ, List.set_cons_zero]
          refine tkH 1 (v := ?v20) rfl (by kernel_rfl) (fun _ _ _ h => h) (Or.inl ⟨by rfl, ?hy20⟩) hHeld ?rest20
          case hy20 => (intro w hSw; clear hSw; go_simp; try with_reducible rfl)
          try simp only [List.getElem_toArray, List.getElem_cons_succ, List.getElem_cons_zero, Act.put, List.setIfInBounds_toArray, List.set_cons_succ, List.set_cons_zero]
          refine tkH 2 (v := ?v21) rfl (by kernel_rfl) (fun _ _ _ h => h) (Or.inl ⟨by rfl, ?hy21⟩) hHeld ?rest21
          case hy21 => (intro w hSw; have hc : w.cell? ⟨z, 59, none⟩ = some (.bool false) := ((q0.below hSw).cell 59 (.bool c.rdy) rfl).trans (by rw [hr]); clear hSw; go_simp; try with_reducible rfl)
          try simp only [List.getElem_toArray, List.getElem_cons_succ, List.getElem_cons_zero, Act.put, List.setIfInBounds_toArray, List.set_cons_succ, List.set_cons_zero]
          refine tkH 3 (v := ?v22) rfl (by kernel_rfl) (fun _ _ _ h => h) (Or.inl ⟨by rfl, ?hy22⟩) hHeld ?rest22
          case hy22 => (intro w hSw; clear hSw; go_simp; try with_reducible rfl)
          try simp only [List.getElem_toArray, List.getElem_cons_succ, List.getElem_cons_zero, Act.put, List.setIfInBounds_toArray, List.set_cons_succ, List.set_cons_zero]
          refine tkH 4 (v := ?v23) rfl (by kernel_rfl) (fun _ _ _ h => h) (Or.inl ⟨by rfl, ?hy23⟩) hHeld ?rest23
          case hy23 => (intro w hSw; clear hSw; go_simp; try with_reducible rfl)
          try simp only [List.getElem_toArray, List.getElem_cons_succ, List.getElem_cons_zero, Act.put, List.setIfInBounds_toArray, List.set_cons_succ, List.set_cons_zero]
          refine tkH 5 (v := ?v24) rfl (by kernel_rfl) (fun _ _ _ h => h) (Or.inl ⟨by rfl, ?hy24⟩) hHeld ?rest24
          case hy24 => (intro w hSw; clear hSw; go_simp; try with_reducible rfl)
          try simp only [List.getElem_toArray, List.getElem_cons_succ, List.getElem_cons_zero, Act.put, List.setIfInBounds_toArray, List.set_cons_succ, List.set_cons_zero]
          refine' tkH 6 (v := _) rfl (by kernel_rfl) (fun _ _ _ h => h) (yieldsIf_load_mid (by rfl) _ _ rfl z 0 rfl (col c) _ ?hS25 Try.underlying35 rfl sizeCo) hHeld ?rest25
          case hS25 => exact fun w h => (q0.below h).range 0 _ (unc_core _ _)
          try simp only [List.getElem_toArray, List.getElem_cons_succ, List.getElem_cons_zero, Act.put, List.setIfInBounds_toArray, List.set_cons_succ, List.set_cons_zero]
          refine wpAnyH_ready (rs := [7]) (by kernel_rfl) (by simp) ?_
          refine AllReadyH.cons rfl (fun K hK => ?_) (AllReadyH.nil)
          go_simp
          go_wp2_with (refine (pa _).mono ?_; rintro r u1 ⟨rfl, hb⟩)
          refine hK.out _ _ (hHeld.below hb) (fun hHeld => ?_)
          clear hK K hb 
          refine tkH 8 (v := ?v26) rfl (by kernel_rfl) (fun _ _ _ h => h) (Or.inl ⟨by rfl, ?hy26⟩) hHeld ?rest26
          case hy26 => (intro w hSw; clear hSw; go_simp; try with_reducible rfl)
          try simp only [List.getElem_toArray, List.getElem_cons_succ, List.getElem_cons_zero, Act.put, List.setIfInBounds_toArray, List.set_cons_succ, List.set_cons_zero]
          refine tkH 9 (v := ?v27) rfl (by kernel_rfl) (fun _ _ _ h => h) (Or.inl ⟨by rfl, ?hy27⟩) hHeld ?rest27
          case hy27 => (intro w hSw; clear hSw; go_simp; try with_reducible rfl)
          try simp only [List.getElem_toArray, List.getElem_cons_succ, List.getElem_cons_zero, Act.put, List.setIfInBounds_toArray, List.set_cons_succ, List.set_cons_zero]
          refine tkH 10 (v := undef) rfl (by kernel_rfl) (fun _ _ _ h => h) (Or.inr ⟨by rfl, rfl⟩) hHeld ?rest28
          try simp only [List.getElem_toArray, List.getElem_cons_succ, List.getElem_cons_zero, Act.put, List.setIfInBounds_toArray, List.set_cons_succ, List.set_cons_zero]
          refine tkH 11 (v := undef) rfl (by kernel_rfl) (fun _ _ _ h => h) (Or.inr ⟨by rfl, rfl⟩) hHeld ?rest29
          try simp only [List.getElem_toArray, List.getElem_cons_succ, List.getElem_cons_zero, Act.put, List.setIfInBounds_toArray, List.set_cons_succ, List.set_cons_zero]
          refine tkH 12 (v := undef) rfl (by kernel_rfl) (fun _ _ _ h => h) (Or.inr ⟨by rfl, rfl⟩) hHeld ?rest30
          try simp only [List.getElem_toArray, List.getElem_cons_succ, List.getElem_cons_zero, Act.put, List.setIfInBounds_toArray, List.set_cons_succ, List.set_cons_zero]
          refine tkH 13 (v := undef) rfl (by kernel_rfl) (fun _ _ _ h => h) (Or.inr ⟨by rfl, rfl⟩) hHeld ?rest31
          try simp only [List.getElem_toArray, List.getElem_cons_succ, List.getElem_cons_zero, Act.put, List.setIfInBounds_toArray, List.set_cons_succ, List.set_cons_zero]
          refine tkH 14 (v := undef) rfl (by kernel_rfl) (fun _ _ _ h => h) (Or.inr ⟨by rfl, rfl⟩) hHeld ?rest32
          try simp only [List.getElem_toArray, List.getElem_cons_succ, List.getElem_cons_zero, Act.put, List.setIfInBounds_toArray, List.set_cons_succ, List.set_cons_zero]
          refine tkH 15 (v := undef) rfl (by kernel_rfl) (fun _ _ _ h => h) (Or.inr ⟨by rfl, rfl⟩) hHeld ?rest33
          try simp only [List.getElem_toArray, List.getElem_cons_succ, List.getElem_cons_zero, Act.put, List.setIfInBounds_toArray, List.set_cons_succ, List.set_cons_zero]
          refine tkH 16 (v := undef) rfl (by kernel_rfl) (fun _ _ _ h => h) (Or.inr ⟨by rfl, rfl⟩) hHeld ?rest34
          try simp only [List.getElem_toArray, List.getElem_cons_succ, List.getElem_cons_zero, Act.put, List.setIfInBounds_toArray, List.set_cons_succ, List.set_cons_zero]
          refine tkH 17 (v := ?v35) rfl (by kernel_rfl) (fun _ _ _ h => h) (Or.inl ⟨by rfl, ?hy35⟩) hHeld ?rest35
          case hy35 => (intro w hSw; clear hSw; go_simp; try with_reducible rfl)
          try simp only [List.getElem_toArray, List.getElem_cons_succ, List.getElem_cons_zero, Act.put, List.setIfInBounds_toArray, List.set_cons_succ, List.set_cons_zero]
          refine wpAnyH_done (by kernel_rfl) ?_ _
          go_wp2_with fail
          go_meet
          exact ⟨rfl, hHeld⟩
        | true =>
          obtain rfl : R = Wn := by rw [hR]; rfl
          clear hR HR
          refine wp_region_held_drew (S := fun w' => Below W.heap.size W w') (by kernel_rfl) (Below.refl _ _).drew (fun hHeld => ?_)
          refine tkH 0 (v := ?v36) rfl (by kernel_rfl) (fun _ _ _ h => h) (Or.inl ⟨by rfl, ?hy36⟩) hHeld ?rest36
          case hy36 => (intro w hSw; clear hSw; go_simp; try with_reducible rfl)
          try simp only [List.getElem_toArray, List.getElem_cons_succ, List.getElem_cons_zero, Act.put, List.setIfInBounds_toArray, List.set_cons_succ, List.set_cons_zero]
          refine tkH 1 (v := ?v37) rfl (by kernel_rfl) (fun _ _ _ h => h) (Or.inl ⟨by rfl, ?hy37⟩) hHeld ?rest37
          case hy37 => (intro w hSw; clear hSw; go_simp; try with_reducible rfl)
          try simp only [List.getElem_toArray, List.getElem_cons_succ, List.getElem_cons_zero, Act.put, List.setIfInBounds_toArray, List.set_cons_succ, List.set_cons_zero]
          refine tkH 2 (v := ?v38) rfl (by kernel_rfl) (fun _ _ _ h => h) (Or.inl ⟨by rfl, ?hy38⟩) hHeld ?rest38
          case hy38 => (intro w hSw; have hc : w.cell? ⟨z, 59, none⟩ = some (.bool false) := ((q0.below hSw).cell 59 (.bool c.rdy) rfl).trans (by rw [hr]); clear hSw; go_simp; try with_reducible rfl)
          try simp only [List.getElem_toArray, List.getElem_cons_succ, List.getElem_cons_zero, Act.put, List.setIfInBounds_toArray, List.set_cons_succ, List.set_cons_zero]
          refine tkH 3 (v := ?v39) rfl (by kernel_rfl) (fun _ _ _ h => h) (Or.inl ⟨by rfl, ?hy39⟩) hHeld ?rest39
          case hy39 => (intro w hSw; clear hSw; go_simp; try with_reducible rfl)
          try simp only [List.getElem_toArray, List.getElem_cons_succ, List.getElem_cons_zero, Act.put, List.setIfInBounds_toArray, List.set_cons_succ, List.set_cons_zero]
          refine tkH 4 (v := ?v40) rfl (by kernel_rfl) (fun _ _ _ h => h) (Or.inl ⟨by rfl, ?hy40⟩) hHeld ?rest40
          case hy40 => (intro w hSw; clear hSw; go_simp; try with_reducible rfl)
          try simp only [List.getElem_toArray, List.getElem_cons_succ, List.getElem_cons_zero, Act.put, List.setIfInBounds_toArray, List.set_cons_succ, List.set_cons_zero]
          refine tkH 5 (v := ?v41) rfl (by kernel_rfl) (fun _ _ _ h => h) (Or.inl ⟨by rfl, ?hy41⟩) hHeld ?rest41
          case hy41 => (intro w hSw; clear hSw; go_simp; try with_reducible rfl)
          try simp only [List.getElem_toArray, List.getElem_cons_succ, List.getElem_cons_zero, Act.put, List.setIfInBounds_toArray, List.set_cons_succ, List.set_cons_zero]
          refine' tkH 6 (v := _) rfl (by kernel_rfl) (fun _ _ _ h => h) (yieldsIf_load_mid (by rfl) _ _ rfl z 0 rfl (col c) _ ?hS42 Try.underlying35 rfl sizeCo) hHeld ?rest42
          case hS42 => exact fun w h => (q0.below h).range 0 _ (unc_core _ _)
          try simp only [List.getElem_toArray, List.getElem_cons_succ, List.getElem_cons_zero, Act.put, List.setIfInBounds_toArray, List.set_cons_succ, List.set_cons_zero]
          refine wpAnyH_ready (rs := [7]) (by kernel_rfl) (by simp) ?_
          refine AllReadyH.cons rfl (fun K hK => ?_) (AllReadyH.nil)
          go_simp
          go_wp2_with (refine (pa _).mono ?_; rintro r u1 ⟨rfl, hb⟩)
          refine hK.out _ _ (hHeld.below hb) (fun hHeld => ?_)
          clear hK K hb 
          refine tkH 8 (v := ?v43) rfl (by kernel_rfl) (fun _ _ _ h => h) (Or.inl ⟨by rfl, ?hy43⟩) hHeld ?rest43
          case hy43 => (intro w hSw; clear hSw; go_simp; try with_reducible rfl)
          try simp only [List.getElem_toArray, List.getElem_cons_succ, List.getElem_cons_zero, Act.put, List.setIfInBounds_toArray, List.set_cons_succ, List.set_cons_zero]
          refine tkH 9 (v := ?v44) rfl (by kernel_rfl) (fun _ _ _ h => h) (Or.inl ⟨by rfl, ?hy44⟩) hHeld ?rest44
          case hy44 => (intro w hSw; clear hSw; go_simp; try with_reducible rfl)
          try simp only [List.getElem_toArray, List.getElem_cons_succ, List.getElem_cons_zero, Act.put, List.setIfInBounds_toArray, List.set_cons_succ, List.set_cons_zero]
          refine tkH 10 (v := ?v45) rfl (by kernel_rfl) (fun _ _ _ h => h) (Or.inl ⟨by rfl, ?hy45⟩) hHeld ?rest45
          case hy45 => (intro w hSw; clear hSw; go_simp; try with_reducible rfl)
          try simp only [List.getElem_toArray, List.getElem_cons_succ, List.getElem_cons_zero, Act.put, List.setIfInBounds_toArray, List.set_cons_succ, List.set_cons_zero]
          refine' tkH 11 (v := _) rfl (by kernel_rfl) (fun _ _ _ h => h) (yieldsIf_load_mid (by rfl) _ _ rfl z 0 rfl (col c) _ ?hS46 Try.underlying35 rfl sizeCo) hHeld ?rest46
          case hS46 => exact fun w h => (q0.below h).range 0 _ (unc_core _ _)
          try simp only [List.getElem_toArray, List.getElem_cons_succ, List.getElem_cons_zero, Act.put, List.setIfInBounds_toArray, List.set_cons_succ, List.set_cons_zero]
          refine tkH 13 (v := ?v47) rfl (by kernel_rfl) (fun _ _ _ h => h) (Or.inl ⟨by rfl, ?hy47⟩) hHeld ?rest47
          case hy47 => (intro w hSw; clear hSw; go_simp; try with_reducible rfl)
          try simp only [List.getElem_toArray, List.getElem_cons_succ, List.getElem_cons_zero, Act.put, List.setIfInBounds_toArray, List.set_cons_succ, List.set_cons_zero]
          refine tkH 14 (v := ?v48) rfl (by kernel_rfl) (fun _ _ _ h => h) (Or.inl ⟨by rfl, ?hy48⟩) hHeld ?rest48
          case hy48 => (intro w hSw; clear hSw; go_simp; try with_reducible rfl)
          try simp only [List.getElem_toArray, List.getElem_cons_succ, List.getElem_cons_zero, Act.put, List.setIfInBounds_toArray, List.set_cons_succ, List.set_cons_zero]
          refine' tkH 15 (v := _) rfl (by kernel_rfl) (fun _ _ _ h => h) (yieldsIf_load_mid (by rfl) _ _ rfl z 31 rfl (row8 c.count) _ ?hS49 Try.underlying29 rfl sizeCt) hHeld ?rest49
          case hS49 => exact fun w h => (q0.below h).range 31 _ (un_count _ _)
          try simp only [List.getElem_toArray, List.getElem_cons_succ, List.getElem_cons_zero, Act.put, List.setIfInBounds_toArray, List.set_cons_succ, List.set_cons_zero]
          refine wpAnyH_ready (rs := [12]) (by kernel_rfl) (by simp) ?_
          refine AllReadyH.cons rfl (fun K hK => ?_) (AllReadyH.nil)
          go_simp
          go_wp2_with (refine (pt _).mono ?_; rintro r u2 ⟨rfl, hb⟩)
          refine hK.out _ _ (hHeld.below hb) (fun hHeld => ?_)
          clear hK K hb 
          refine wpAnyH_ready (rs := [16]) (by kernel_rfl) (by simp) ?_
          refine AllReadyH.cons rfl (fun K hK => ?_) (AllReadyH.nil)
          go_simp
          go_wp2_with (refine (pw _).mono ?_; rintro r u3 ⟨rfl, hb⟩)
          refine hK.out _ _ (hHeld.below hb) (fun hHeld => ?_)
          clear hK K hb 
          refine tkH 17 (v := ?v50) rfl (by kernel_rfl) (fun _ _ _ h => h) (Or.inl ⟨by rfl, ?hy50⟩) hHeld ?rest50
          case hy50 => (intro w hSw; clear hSw; go_simp; try with_reducible rfl)
          try simp only [List.getElem_toArray, List.getElem_cons_succ, List.getElem_cons_zero, Act.put, List.setIfInBounds_toArray, List.set_cons_succ, List.set_cons_zero]
          refine wpAnyH_done (by kernel_rfl) ?_ _
          go_wp2_with fail
          go_meet
          exact ⟨rfl, hHeld⟩
    case rest =>
      obtain ⟨rfl, hb⟩ := hcut
      clear pa pt pw hR hr
      replace q0 := q0.below hb
      replace a1 := a1.below hb
      replace hB := hB.trans (hb.mono hB.size)
      clear hb
      rename World => w1
      obtain ⟨c1, hc1⟩ : ∃ c1, Hid (readyC c = c1) := ⟨_, rfl⟩
      rw [hc1.out] at fin_no fin_yes
      have hgg : Hid (gathB c1 = true) := by
        show gathB c1 = true
        rw [← hc1.out, readyC]
        split <;> exact hg1.out
      go_upto_if 28 with fail
      go_cut [1] from 29 to 30 (fun v wx => v = .pointer (some ⟨z, 0, none⟩) ∧ Blk z (unc c1 (.slice ta Hs.length tk)) 83 wx ∧ Blk (z + 1) (unc Co.zero (.slice none 0 0)) 83 wx ∧ Below w.heap.size w wx)
      case first =>
        clear fin_no fin_yes hin hgg hg1
        cases R with
        | true =>
          obtain rfl : c1 = c.wRdy true := by rw [← hc1.out, readyC, HR.out]; rfl
          go_wp2_with ((refine store_one rfl 4 _ _ rfl (off := 59) (.bool true) q0 rfl rfl rfl rfl sizeBool (by rw [unc_size]; decide) ?_; intro w2 b2 k2; rw [unc_set _ _ _ 59 _ (Co.s_rdy c true) (by decide)] at b2))
          go_meet
          exact ⟨rfl, b2, a1.kp1 k2 (by omega), hB.trans (k2.below1 (by omega) hB.size)⟩
        | false =>
          obtain rfl : c1 = c := by rw [← hc1.out, readyC, HR.out]; rfl
          go_wp2_with fail
          go_meet
          exact ⟨rfl, q0, a1, hB⟩
      case rest =>
        clear q0 a1 hB HR hc1 hg1
        obtain ⟨rfl, q0, a1, hB⟩ := hcut
        have hg1 := hgg
        clear hgg
        rename World => w2
        try simp only [Exit.inBlock, Exit.then]
        have pd := rdone_ok c1
        obtain ⟨r, hr⟩ : ∃ t, c1.rdy = t := ⟨_, rfl⟩
        obtain ⟨D, hD⟩ : ∃ t, doneB c1 = t := ⟨_, rfl⟩
        have HI : Hid (insB c1 = (r && D)) := by show insB c1 = _; rw [insB, hg1.out, hr, hD, Bool.true_and]
        rw [hD] at pd
        have p0 := q0.cell 59 (.bool c1.rdy) rfl
        rw [hr] at p0
        clear hD hr
        cases r with
        | false =>
          go_upto_region 13 with fail
          clear p0 pd
          go_wp2_with (first | refine load_blk rfl 83 _ rfl q0 rfl Try.underlying83 rfl sizeSg ?_ | (refine store_part rfl 83 _ _ rfl (off := 0) (cells := unc c1 (.slice ta Hs.length tk)) a1 rfl rfl sizeSg (Nat.le_refl _) (unc_one _ _ _ _) ?_; intro w9 b9 k9; rw [unc_all] at b9))
          exact bodyPost_ret (w := w9) (v := .agg (unc c1 (.slice ta Hs.length tk))) (ret_one rfl rfl b9 Try.underlying83 rfl sizeSg) rfl ⟨_, rfl, fin_no _ (hB.trans (k9.below1 (by omega) hB.size)) HI.out⟩
        | true =>
          go_wp2_with (refine load_wpart rfl 35 _ rfl (o := 0) q0 rfl (col c1) (unc_core _ _) Try.underlying35 rfl sizeCo ?_)
          refine (pd _).mono ?_
          rintro e0 w4 ⟨rfl, hb⟩
          replace q0 := q0.below hb
          replace a1 := a1.below hb
          replace hB := hB.trans (hb.mono hB.size)
          clear hb pd p0
          cases D with
          | false =>
            go_upto_region 13 with fail
            go_wp2_with (first | refine load_blk rfl 83 _ rfl q0 rfl Try.underlying83 rfl sizeSg ?_ | (refine store_part rfl 83 _ _ rfl (off := 0) (cells := unc c1 (.slice ta Hs.length tk)) a1 rfl rfl sizeSg (Nat.le_refl _) (unc_one _ _ _ _) ?_; intro w9 b9 k9; rw [unc_all] at b9))
            exact bodyPost_ret (w := w9) (v := .agg (unc c1 (.slice ta Hs.length tk))) (ret_one rfl rfl b9 Try.underlying83 rfl sizeSg) rfl ⟨_, rfl, fin_no _ (hB.trans (k9.below1 (by omega) hB.size)) HI.out⟩
          | true =>
            go_upto_region 6 with fail
            have hw4 := hB.size
            have hq4 := a1.lt
            have p1 := q0.cell 189 (.slice ta Hs.length tk) rfl
            have g5 := (hG.below hB).below (below_box w4 (.cells (viewH c1).arr 66))
            have b5 := blk_new w4 (viewH c1).arr 66
            have hb5 := below_box w4 (.cells (viewH c1).arr 66)
            have hs5 : (w4.alloc (.cells (viewH c1).arr 66)).heap.size = w4.heap.size + 1 := alloc_size _ _
            have hx := (li_one b5).src (P := Try.prog) Hp.vals_length Hp.vals_one Try.underlying44 1
            have q5 := q0.below hb5
            go_upto_region 7 with (go_big_may; first | refine load_part rfl 27 _ rfl (o := 40) q0 rfl c1.pr.vals (un_pr _ _) Try.underlying27 rfl sizeIdn ?_ | refine load_part rfl 28 _ rfl (o := 43) q0 rfl (row8 c1.want) (un_want _ _) Try.underlying28 rfl sizeMb ?_ | (refine build_as rfl 66 #[(0, .const (.bool true)), (2, .tmp 43), (3, .tmp 46)] rfl (C := (viewH c1).arr) ?_ ?_; kernel_rfl) | refine box_hp rfl _ rfl (viewH c1) rfl ?_ | (refine append_ln Hp.vals_length rfl _ _ rfl Try.underlying44 hI hz0 hsz hby hzs g5 (by omega) rfl rfl (M := [viewH c1]) (by simp) hx rfl (by simp; omega) (by simp [maxLen]; omega) ?_; intro td tj w6 hG6 hk6 hA6; have q6 := q5.kp hk6 (fun hm => by have := hin _ hm; omega)) | (refine store_one rfl 44 _ _ rfl (off := 189) (.slice td (Hs.length + 1) tj) q6 rfl rfl rfl rfl sizeHs (by rw [unc_size]; decide) ?_; intro w7 q7 k7; rw [unc_told] at q7))
            try simp only [Act.put]
            have hne : z ∉ blkOf td := fun hm => by
              rcases hA6 _ hm with h | h
              · have := hin _ h; omega
              · omega
            have hs6 := hk6.size
            replace a1 := (a1.below hb5).kp hk6 (fun hm => by have := hin _ hm; omega)
            replace hB : Below B w w6 := ((hB.mono hBw).trans (hb5.mono (by omega))).trans (hk6.below (fun i hi => (hin i hi).1) (by omega))
            clear q0 q5 q6 p1 hx b5 g5 hb5 hk6 hG
            replace hG6 := hG6.away k7 hne
            replace a1 := a1.kp1 k7 (by omega)
            replace hB := hB.trans (k7.below1 (by omega) (by omega))
            have hsk7 := k7.size
            clear k7
            go_upto_region 8 with (go_big_may; first | refine load_part rfl 27 _ rfl (o := 40) q7 rfl c1.pr.vals (un_pr _ _) Try.underlying27 rfl sizeIdn ?_ | (refine store_part rfl 27 _ _ rfl (off := 20) (cells := c1.pr.arr) q7 rfl rfl sizeIdn (show 20 + 3 ≤ 190 by decide) c1.pr.arr_one ?_; intro w8 b8 k8; rw [unc_put _ _ _ 20 _ (Co.s_conf c1 c1.pr) (show 20 + 3 ≤ 189 by decide)] at b8))
            try simp only [Act.put]
            replace hG6 := hG6.away k8 hne
            replace a1 := a1.kp1 k8 (by omega)
            replace hB := hB.trans (k8.below1 (by omega) (by omega))
            have hsk8 := k8.size
            clear k8 q7
            obtain ⟨c8, hc8, b8⟩ := name_blk b8
            have hw8 : Hid (c8.want = c1.want) := by show _ = _; rw [← hc8.out]
            go_upto_region 9 with (go_big_may; first | refine load_part rfl 28 _ rfl (o := 43) b8 rfl (row8 c8.want) (un_want _ _) Try.underlying28 rfl sizeMb ?_ | (refine store_part rfl 28 _ _ rfl (off := 23) (cells := (mbc c8.want)) b8 rfl rfl sizeMb (show 23 + 8 ≤ 190 by decide) (mbc_one _) ?_; intro w9 b9 k9; rw [unc_put _ _ _ 23 _ (Co.s_mem c8 c8.want) (show 23 + 8 ≤ 189 by decide)] at b9))
            try simp only [Act.put]
            replace hG6 := hG6.away k9 hne
            replace a1 := a1.kp1 k9 (by omega)
            replace hB := hB.trans (k9.below1 (by omega) (by omega))
            have hsk9 := k9.size
            clear k9 b8
            obtain ⟨c9, hc9, b9⟩ := name_blk b9
            go_upto_region 10 with (go_big_may; first | (refine build_as rfl 29 #[] rfl (C := mbc noMb) ?_ ?_; kernel_rfl) | (refine store_part rfl 29 _ _ rfl (off := 31) (cells := (mbc noMb)) b9 rfl rfl sizeCt (show 31 + 8 ≤ 190 by decide) (mbc_one _) ?_; intro w10 b10 k10; rw [unc_put _ _ _ 31 _ (Co.s_count c9 noMb) (show 31 + 8 ≤ 189 by decide)] at b10))
            try simp only [Act.put]
            replace hG6 := hG6.away k10 hne
            replace a1 := a1.kp1 k10 (by omega)
            replace hB := hB.trans (k10.below1 (by omega) (by omega))
            have hsk10 := k10.size
            clear k10 b9
            obtain ⟨c10, hc10, b10⟩ := name_blk b10
            go_upto_region 11 with (go_big_may; first | (refine build_as rfl 29 #[] rfl (C := mbc noMb) ?_ ?_; kernel_rfl) | (refine store_part rfl 29 _ _ rfl (off := 51) (cells := (mbc noMb)) b10 rfl rfl sizeCt (show 51 + 8 ≤ 190 by decide) (mbc_one _) ?_; intro w11 b11 k11; rw [unc_put _ _ _ 51 _ (Co.s_cut c10 noMb) (show 51 + 8 ≤ 189 by decide)] at b11))
            try simp only [Act.put]
            replace hG6 := hG6.away k11 hne
            replace a1 := a1.kp1 k11 (by omega)
            replace hB := hB.trans (k11.below1 (by omega) (by omega))
            have hsk11 := k11.size
            clear k11 b10
            obtain ⟨c11, hc11, b11⟩ := name_blk b11
            go_upto_region 12 with (go_big_may; (refine store_one rfl 30 _ _ rfl (off := 39) (.slice none 0 0) b11 rfl rfl rfl rfl sizeSl (by rw [unc_size]; decide) ?_; intro w12 b12 k12; rw [unc_set _ _ _ 39 _ (Co.s_kept c11 none 0 0) (by decide)] at b12))
            try simp only [Act.put]
            replace hG6 := hG6.away k12 hne
            replace a1 := a1.kp1 k12 (by omega)
            replace hB := hB.trans (k12.below1 (by omega) (by omega))
            have hsk12 := k12.size
            clear k12 b11
            obtain ⟨c12, hc12, b12⟩ := name_blk b12
            go_upto_region 13 with (go_big_may; (refine store_one rfl 4 _ _ rfl (off := 59) (.bool false) b12 rfl rfl rfl rfl sizeBool (by rw [unc_size]; decide) ?_; intro w13 b13 k13; rw [unc_set _ _ _ 59 _ (Co.s_rdy c12 false) (by decide)] at b13))
            try simp only [Act.put]
            replace hG6 := hG6.away k13 hne
            replace a1 := a1.kp1 k13 (by omega)
            replace hB := hB.trans (k13.below1 (by omega) (by omega))
            have hsk13 := k13.size
            clear k13 b12
            obtain ⟨c13, hc13, q13⟩ := name_blk b13
            have hd : Hid ((instC c1).kp none 0 0 = c13) := by
              show _ = _
              rw [← hc13.out, ← hc12.out, ← hc11.out, ← hc10.out, ← hc9.out, ← hc8.out]
              rfl
            clear hc8 hc9 hc10 hc11 hc12 hc13 hw8
            have hne1 : z + 1 ∉ blkOf td := fun hm => by
              rcases hA6 _ hm with h | h
              · have := hin _ h; omega
              · omega
            go_wp2_with (first | refine load_blk rfl 83 _ rfl q13 rfl Try.underlying83 rfl sizeSg ?_ | (refine store_part rfl 83 _ _ rfl (off := 0) (cells := unc c13 (.slice td (Hs.length + 1) tj)) a1 rfl rfl sizeSg (Nat.le_refl _) (unc_one _ _ _ _) ?_; intro w19 b19 k19; rw [unc_all] at b19))
            exact bodyPost_ret (w := w19) (v := .agg (unc c13 (.slice td (Hs.length + 1) tj))) (ret_one rfl rfl b19 Try.underlying83 rfl sizeSg) rfl ⟨_, rfl, fin_yes _ td tj c13 hd.out (hG6.away k19 hne1) (hB.trans (k19.below1 (by omega) (by omega))) HI.out⟩

end Go.Proofs.Ythgmecgknhphmaa
