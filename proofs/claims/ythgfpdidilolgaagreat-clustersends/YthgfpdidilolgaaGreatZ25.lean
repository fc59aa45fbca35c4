/-
  Of the texts beneath these laws, in their order: CeE.
  Each theorem says its own conditions.
-/
import Derived.Test.YthgfpdidilolgaaGreatZ24
import Derived.Test.YthgfpdidilolgaaGreatZ04
import Derived.Test.YthgfpdidilolgaaGreatZ22
import Derived.Test.YthgfpdidilolgaaGreatZ00
namespace Go.Proofs.YthgfpdidilolgaaGreat
set_option maxRecDepth 10000
set_option linter.unusedSimpArgs false
open Go.RowKit Go.Sort
set_option linter.unusedVariables false
set_option maxHeartbeats 8000000 in
theorem goOn_ok (B P : Nat) (s : Sg) (ht : (s.t.length + 1) * 408 ≤ 140737488355328) (w : World) (hU : Uv 166 B P s w) :
  Calls Tryz.prog 102 #[.pointer (some ⟨P, 0, none⟩)] w fun e w' => e = .returned (.tuple #[]) ∧ Uv 166 B P (goOnS s) w' ∧ Below P w w' := by
 obtain ⟨c0, L, Hs⟩ := s
 obtain ⟨c, ta, tk, hn, hsim, b0, hL, hG, hO, hO2⟩ := hU.open
 clear hU
 have hn : c.kn = L.length := hn
 have b0 : Blk P (unc c (.slice ta Hs.length tk)) 166 w := b0
 have hL : Li Kt.vals B c.ka L w := hL
 have hG : Lg Hp.vals 50 57 (P + 1) ta tk Hs w := hG
 have hO : Off c.ka L P := hO
 have hO2 : ∀ g ∈ blkOf ta, Off c.ka L g := hO2
 have ht : (Hs.length + 1) * 408 ≤ 140737488355328 := ht
 have hP := b0.lt
 have hin := hG.in
 have HS : Hid (Sg.sim (goOnS ⟨c, L, Hs⟩) (goOnS ⟨c0, L, Hs⟩)) := goOn_sim hsim L Hs
 have hka : (readyC c).ka = c.ka ∧ (readyC c).kn = c.kn ∧ (readyC c).kc = c.kc := by unfold readyC; split <;> exact ⟨rfl, rfl, rfl⟩
 have LG : ∀ {u : World}, Kp [P] w u → Lg Hp.vals 50 57 (P + 1) ta tk Hs u := fun k => hG.kp k (by simp)
 have fin_no : ∀ u, Blk P (unc (readyC c) (.slice ta Hs.length tk)) 166 u → Kp [P] w u → insB (readyC c) = false → Uv 166 B P (goOnS ⟨c0, L, Hs⟩) u ∧ Below P w u := by
  intro u b k hi
  refine ⟨Uv.sim ?_ HS.out, k.below1 (Nat.le_refl _) (by omega)⟩
  have e : goOnS ⟨c, L, Hs⟩ = ⟨readyC c, L, Hs⟩ := by rw [goOnS, hi]; rfl
  rw [e]
  refine ⟨c.ka, c.kc, ta, tk, ?_, hL.off k (fun x hx => by simp at hx; subst hx; exact hO), LG k, hO, hO2⟩
  have e2 : (readyC c).kp c.ka L.length c.kc = readyC c := by rw [← hka.1, ← hka.2.2]; exact kp_self _ _ (hka.2.1.trans hn)
  show Blk P (unc ((readyC c).kp c.ka L.length c.kc) _) _ u
  rw [e2]
  exact b
 have fin_yes : ∀ u u', Added P ((instC (readyC c)).kp none 0 0) Hs (viewH (readyC c)) ta u u' → Kp [P] w u → insB (readyC c) = true → Uv 166 B P (goOnS ⟨c0, L, Hs⟩) u' ∧ Below P w u' := by
  rintro u u' ⟨ta', tk', h1, h2, h3, h4⟩ k hi
  have hk : Kp (P :: blkOf ta) w u' := (k.mono (fun i hi => by simp at hi; simp [hi])).trans h3
  refine ⟨Uv.sim ?_ HS.out, hk.below (fun i hi => by rcases List.mem_cons.1 hi with rfl | hi; exact Nat.le_refl _; have := hin i hi; omega) (by omega)⟩
  have e : goOnS ⟨c, L, Hs⟩ = ⟨instC (readyC c), [], Hs ++ [viewH (readyC c)]⟩ := by rw [goOnS, hi]; rfl
  rw [e]
  exact ⟨none, 0, ta', tk', h1, Li.nil _ _ _, h2, Off.nil _ _, fun g _ => Off.nil _ _⟩
 have pg := gathers_ok c
 have pa := all_ok c
 have pt := target_ok c
 have pw := within_ok (targC c) c.count
 obtain ⟨g, hg⟩ : ∃ t, gathB c = t := ⟨_, rfl⟩
 obtain ⟨rr, hr⟩ : ∃ t, c.rdy = t := ⟨_, rfl⟩
 obtain ⟨A, hA⟩ : ∃ t, allB c = t := ⟨_, rfl⟩
 obtain ⟨Wn, hW⟩ : ∃ t, withB (targC c) c.count = t := ⟨_, rfl⟩
 obtain ⟨R, HR⟩ : ∃ t, Hid (rdyB c = t) := ⟨_, rfl⟩
 have hR : R = (g && !rr && A && Wn) := by rw [← HR.out, rdyB, hg, hr, hA, hW]
 rw [hg] at pg
 rw [hA] at pa
 rw [hW] at pw
 clear hg hA hW hL hG hO hO2 HS hka hsim
 go_enter Tryz.func102, Tryz.ntmps102
 go_upto_region 0 with fail
 have hC0 : Below w.heap.size w w.drew := (Below.refl _ _).drew
 go_cut [34] from 2 to 33 (fun v wx => v = .bool R ∧ Blk P (unc c (.slice ta Hs.length tk)) 166 wx ∧ Below w.heap.size w wx)
 case first =>
  clear fin_no fin_yes LG
  cases g with
  | false =>
   obtain rfl : R = false := by rw [hR]; rfl
   clear hR HR pa pt pw
   refine wp_region_held_drew (S := fun w' => Blk P (unc c (.slice ta Hs.length tk)) 166 w') (by kernel_rfl) b0.drew (fun hHeld => ?_)
   refine tkH 0 (v := ?v36) rfl (by kernel_rfl) (fun _ _ _ h => h) (Or.inl ⟨by rfl, ?hy36⟩) hHeld ?_
   case hy36 => (intro w hSw; clear hSw; go_simp; try with_reducible rfl)
   try simp only [yA, yB, yC, Act.put, yD, yE, yF]
   refine tkH 1 (v := ?v37) rfl (by kernel_rfl) (fun _ _ _ h => h) (Or.inl ⟨by rfl, ?hy37⟩) hHeld ?_
   case hy37 => (intro w hSw; clear hSw; go_simp; try with_reducible rfl)
   try simp only [yA, yB, yC, Act.put, yD, yE, yF]
   refine tkH 2 (v := ?v38) rfl (by kernel_rfl) (fun _ _ _ h => h) (Or.inl ⟨by rfl, ?hy38⟩) hHeld ?_
   case hy38 => (intro w hSw; clear hSw; go_simp; try with_reducible rfl)
   try simp only [yA, yB, yC, Act.put, yD, yE, yF]
   refine' tkH 3 (v := _) rfl (by kernel_rfl) (fun _ _ _ h => h) (yieldsIf_load_mid (by rfl) _ _ rfl P 0 rfl (col c) _ ?hS39 Tryz.underlying78 rfl sizeCo) hHeld ?_
   case hS39 => exact fun w h => h.range 0 _ (unc_core _ _)
   try simp only [yA, yB, yC, Act.put, yD, yE, yF]
   refine wpAnyH_ready (rs := [4]) (by kernel_rfl) (by simp) ?_
   refine AllReadyH.cons rfl (fun K hK => ?_) (AllReadyH.nil)
   go_simp
   go_wp2_with (refine (pg _).mono ?_; rintro r u1 ⟨rfl, hb⟩)
   have hC1 := hC0.trans (hb.mono hC0.size)
   refine hK.out _ _ (hHeld.below hb) (fun hHeld => ?_)
   clear hK K hb hC0
   refine tkH 5 (v := ?v40) rfl (by kernel_rfl) (fun _ _ _ h => h) (Or.inl ⟨by rfl, ?hy40⟩) hHeld ?_
   case hy40 => (intro w hSw; clear hSw; go_simp; try with_reducible rfl)
   try simp only [yA, yB, yC, Act.put, yD, yE, yF]
   refine tkH 6 (v := undef) rfl (by kernel_rfl) (fun _ _ _ h => h) (Or.inr ⟨by rfl, rfl⟩) hHeld ?_
   try simp only [yA, yB, yC, Act.put, yD, yE, yF]
   refine tkH 7 (v := undef) rfl (by kernel_rfl) (fun _ _ _ h => h) (Or.inr ⟨by rfl, rfl⟩) hHeld ?_
   try simp only [yA, yB, yC, Act.put, yD, yE, yF]
   refine tkH 8 (v := undef) rfl (by kernel_rfl) (fun _ _ _ h => h) (Or.inr ⟨by rfl, rfl⟩) hHeld ?_
   try simp only [yA, yB, yC, Act.put, yD, yE, yF]
   refine tkH 9 (v := undef) rfl (by kernel_rfl) (fun _ _ _ h => h) (Or.inr ⟨by rfl, rfl⟩) hHeld ?_
   try simp only [yA, yB, yC, Act.put, yD, yE, yF]
   refine tkH 10 (v := undef) rfl (by kernel_rfl) (fun _ _ _ h => h) (Or.inr ⟨by rfl, rfl⟩) hHeld ?_
   try simp only [yA, yB, yC, Act.put, yD, yE, yF]
   refine tkH 11 (v := undef) rfl (by kernel_rfl) (fun _ _ _ h => h) (Or.inr ⟨by rfl, rfl⟩) hHeld ?_
   try simp only [yA, yB, yC, Act.put, yD, yE, yF]
   refine tkH 12 (v := ?v47) rfl (by kernel_rfl) (fun _ _ _ h => h) (Or.inl ⟨by rfl, ?hy47⟩) hHeld ?_
   case hy47 => (intro w hSw; clear hSw; go_simp; try with_reducible rfl)
   try simp only [yA, yB, yC, Act.put, yD, yE, yF]
   refine tkH 13 (v := ?v48) rfl (by kernel_rfl) (fun _ _ _ h => h) (Or.inl ⟨by rfl, ?hy48⟩) hHeld ?_
   case hy48 => (intro w hSw; clear hSw; go_simp; try with_reducible rfl)
   try simp only [yA, yB, yC, Act.put, yD, yE, yF]
   refine tkH 14 (v := undef) rfl (by kernel_rfl) (fun _ _ _ h => h) (Or.inr ⟨by rfl, rfl⟩) hHeld ?_
   try simp only [yA, yB, yC, Act.put, yD, yE, yF]
   refine tkH 15 (v := undef) rfl (by kernel_rfl) (fun _ _ _ h => h) (Or.inr ⟨by rfl, rfl⟩) hHeld ?_
   try simp only [yA, yB, yC, Act.put, yD, yE, yF]
   refine tkH 16 (v := undef) rfl (by kernel_rfl) (fun _ _ _ h => h) (Or.inr ⟨by rfl, rfl⟩) hHeld ?_
   try simp only [yA, yB, yC, Act.put, yD, yE, yF]
   refine tkH 17 (v := undef) rfl (by kernel_rfl) (fun _ _ _ h => h) (Or.inr ⟨by rfl, rfl⟩) hHeld ?_
   try simp only [yA, yB, yC, Act.put, yD, yE, yF]
   refine tkH 18 (v := undef) rfl (by kernel_rfl) (fun _ _ _ h => h) (Or.inr ⟨by rfl, rfl⟩) hHeld ?_
   try simp only [yA, yB, yC, Act.put, yD, yE, yF]
   refine tkH 19 (v := ?v54) rfl (by kernel_rfl) (fun _ _ _ h => h) (Or.inl ⟨by rfl, ?hy54⟩) hHeld ?_
   case hy54 => (intro w hSw; clear hSw; go_simp; try with_reducible rfl)
   try simp only [yA, yB, yC, Act.put, yD, yE, yF]
   refine tkH 20 (v := ?v55) rfl (by kernel_rfl) (fun _ _ _ h => h) (Or.inl ⟨by rfl, ?hy55⟩) hHeld ?_
   case hy55 => (intro w hSw; clear hSw; go_simp; try with_reducible rfl)
   try simp only [yA, yB, yC, Act.put, yD, yE, yF]
   refine tkH 21 (v := undef) rfl (by kernel_rfl) (fun _ _ _ h => h) (Or.inr ⟨by rfl, rfl⟩) hHeld ?_
   try simp only [yA, yB, yC, Act.put, yD, yE, yF]
   refine tkH 22 (v := undef) rfl (by kernel_rfl) (fun _ _ _ h => h) (Or.inr ⟨by rfl, rfl⟩) hHeld ?_
   try simp only [yA, yB, yC, Act.put, yD, yE, yF]
   refine tkH 23 (v := undef) rfl (by kernel_rfl) (fun _ _ _ h => h) (Or.inr ⟨by rfl, rfl⟩) hHeld ?_
   try simp only [yA, yB, yC, Act.put, yD, yE, yF]
   refine tkH 24 (v := undef) rfl (by kernel_rfl) (fun _ _ _ h => h) (Or.inr ⟨by rfl, rfl⟩) hHeld ?_
   try simp only [yA, yB, yC, Act.put, yD, yE, yF]
   refine tkH 25 (v := undef) rfl (by kernel_rfl) (fun _ _ _ h => h) (Or.inr ⟨by rfl, rfl⟩) hHeld ?_
   try simp only [yA, yB, yC, Act.put, yD, yE, yF]
   refine tkH 26 (v := undef) rfl (by kernel_rfl) (fun _ _ _ h => h) (Or.inr ⟨by rfl, rfl⟩) hHeld ?_
   try simp only [yA, yB, yC, Act.put, yD, yE, yF]
   refine tkH 27 (v := undef) rfl (by kernel_rfl) (fun _ _ _ h => h) (Or.inr ⟨by rfl, rfl⟩) hHeld ?_
   try simp only [yA, yB, yC, Act.put, yD, yE, yF]
   refine tkH 28 (v := undef) rfl (by kernel_rfl) (fun _ _ _ h => h) (Or.inr ⟨by rfl, rfl⟩) hHeld ?_
   try simp only [yA, yB, yC, Act.put, yD, yE, yF]
   refine tkH 29 (v := undef) rfl (by kernel_rfl) (fun _ _ _ h => h) (Or.inr ⟨by rfl, rfl⟩) hHeld ?_
   try simp only [yA, yB, yC, Act.put, yD, yE, yF]
   refine tkH 30 (v := undef) rfl (by kernel_rfl) (fun _ _ _ h => h) (Or.inr ⟨by rfl, rfl⟩) hHeld ?_
   try simp only [yA, yB, yC, Act.put, yD, yE, yF]
   refine tkH 31 (v := undef) rfl (by kernel_rfl) (fun _ _ _ h => h) (Or.inr ⟨by rfl, rfl⟩) hHeld ?_
   try simp only [yA, yB, yC, Act.put, yD, yE, yF]
   refine tkH 32 (v := ?v67) rfl (by kernel_rfl) (fun _ _ _ h => h) (Or.inl ⟨by rfl, ?hy67⟩) hHeld ?_
   case hy67 => (intro w hSw; clear hSw; go_simp; try with_reducible rfl)
   try simp only [yA, yB, yC, Act.put, yD, yE, yF]
   refine wpAnyH_done (by kernel_rfl) ?_ _
   go_wp2_with fail
   go_meet
   exact ⟨rfl, hHeld, hC1⟩
  | true =>
   cases rr with
   | true =>
    obtain rfl : R = false := by rw [hR]; rfl
    clear hR HR pa pt pw
    refine wp_region_held_drew (S := fun w' => Blk P (unc c (.slice ta Hs.length tk)) 166 w') (by kernel_rfl) b0.drew (fun hHeld => ?_)
    refine tkH 0 (v := ?v68) rfl (by kernel_rfl) (fun _ _ _ h => h) (Or.inl ⟨by rfl, ?hy68⟩) hHeld ?_
    case hy68 => (intro w hSw; clear hSw; go_simp; try with_reducible rfl)
    try simp only [yA, yB, yC, Act.put, yD, yE, yF]
    refine tkH 1 (v := ?v69) rfl (by kernel_rfl) (fun _ _ _ h => h) (Or.inl ⟨by rfl, ?hy69⟩) hHeld ?_
    case hy69 => (intro w hSw; clear hSw; go_simp; try with_reducible rfl)
    try simp only [yA, yB, yC, Act.put, yD, yE, yF]
    refine tkH 2 (v := ?v70) rfl (by kernel_rfl) (fun _ _ _ h => h) (Or.inl ⟨by rfl, ?hy70⟩) hHeld ?_
    case hy70 => (intro w hSw; clear hSw; go_simp; try with_reducible rfl)
    try simp only [yA, yB, yC, Act.put, yD, yE, yF]
    refine' tkH 3 (v := _) rfl (by kernel_rfl) (fun _ _ _ h => h) (yieldsIf_load_mid (by rfl) _ _ rfl P 0 rfl (col c) _ ?hS71 Tryz.underlying78 rfl sizeCo) hHeld ?_
    case hS71 => exact fun w h => h.range 0 _ (unc_core _ _)
    try simp only [yA, yB, yC, Act.put, yD, yE, yF]
    refine wpAnyH_ready (rs := [4]) (by kernel_rfl) (by simp) ?_
    refine AllReadyH.cons rfl (fun K hK => ?_) (AllReadyH.nil)
    go_simp
    go_wp2_with (refine (pg _).mono ?_; rintro r u1 ⟨rfl, hb⟩)
    have hC1 := hC0.trans (hb.mono hC0.size)
    refine hK.out _ _ (hHeld.below hb) (fun hHeld => ?_)
    clear hK K hb hC0
    refine tkH 5 (v := ?v72) rfl (by kernel_rfl) (fun _ _ _ h => h) (Or.inl ⟨by rfl, ?hy72⟩) hHeld ?_
    case hy72 => (intro w hSw; clear hSw; go_simp; try with_reducible rfl)
    try simp only [yA, yB, yC, Act.put, yD, yE, yF]
    refine tkH 6 (v := ?v73) rfl (by kernel_rfl) (fun _ _ _ h => h) (Or.inl ⟨by rfl, ?hy73⟩) hHeld ?_
    case hy73 => (intro w hSw; clear hSw; go_simp; try with_reducible rfl)
    try simp only [yA, yB, yC, Act.put, yD, yE, yF]
    refine tkH 7 (v := ?v74) rfl (by kernel_rfl) (fun _ _ _ h => h) (Or.inl ⟨by rfl, ?hy74⟩) hHeld ?_
    case hy74 => (intro w hSw; clear hSw; go_simp; try with_reducible rfl)
    try simp only [yA, yB, yC, Act.put, yD, yE, yF]
    refine tkH 8 (v := ?v75) rfl (by kernel_rfl) (fun _ _ _ h => h) (Or.inl ⟨by rfl, ?hy75⟩) hHeld ?_
    case hy75 => (intro w hSw; clear hSw; go_simp; try with_reducible rfl)
    try simp only [yA, yB, yC, Act.put, yD, yE, yF]
    refine tkH 9 (v := ?v76) rfl (by kernel_rfl) (fun _ _ _ h => h) (Or.inl ⟨by rfl, ?hy76⟩) hHeld ?_
    case hy76 => (intro w hSw; clear hSw; go_simp; try with_reducible rfl)
    try simp only [yA, yB, yC, Act.put, yD, yE, yF]
    refine tkH 10 (v := ?v77) rfl (by kernel_rfl) (fun _ _ _ h => h) (Or.inl ⟨by rfl, ?hy77⟩) hHeld ?_
    case hy77 => (intro w hSw; have hc : w.cell? ⟨P, 59, none⟩ = some (.bool true) := (hSw.cell 59 (.bool c.rdy) rfl).trans (by rw [hr]); clear hSw; go_simp; try with_reducible rfl)
    try simp only [yA, yB, yC, Act.put, yD, yE, yF]
    refine tkH 11 (v := ?v78) rfl (by kernel_rfl) (fun _ _ _ h => h) (Or.inl ⟨by rfl, ?hy78⟩) hHeld ?_
    case hy78 => (intro w hSw; clear hSw; go_simp; try with_reducible rfl)
    try simp only [yA, yB, yC, Act.put, yD, yE, yF]
    refine tkH 12 (v := ?v79) rfl (by kernel_rfl) (fun _ _ _ h => h) (Or.inl ⟨by rfl, ?hy79⟩) hHeld ?_
    case hy79 => (intro w hSw; clear hSw; go_simp; try with_reducible rfl)
    try simp only [yA, yB, yC, Act.put, yD, yE, yF]
    refine tkH 13 (v := ?v80) rfl (by kernel_rfl) (fun _ _ _ h => h) (Or.inl ⟨by rfl, ?hy80⟩) hHeld ?_
    case hy80 => (intro w hSw; clear hSw; go_simp; try with_reducible rfl)
    try simp only [yA, yB, yC, Act.put, yD, yE, yF]
    refine tkH 14 (v := undef) rfl (by kernel_rfl) (fun _ _ _ h => h) (Or.inr ⟨by rfl, rfl⟩) hHeld ?_
    try simp only [yA, yB, yC, Act.put, yD, yE, yF]
    refine tkH 15 (v := undef) rfl (by kernel_rfl) (fun _ _ _ h => h) (Or.inr ⟨by rfl, rfl⟩) hHeld ?_
    try simp only [yA, yB, yC, Act.put, yD, yE, yF]
    refine tkH 16 (v := undef) rfl (by kernel_rfl) (fun _ _ _ h => h) (Or.inr ⟨by rfl, rfl⟩) hHeld ?_
    try simp only [yA, yB, yC, Act.put, yD, yE, yF]
    refine tkH 17 (v := undef) rfl (by kernel_rfl) (fun _ _ _ h => h) (Or.inr ⟨by rfl, rfl⟩) hHeld ?_
    try simp only [yA, yB, yC, Act.put, yD, yE, yF]
    refine tkH 18 (v := undef) rfl (by kernel_rfl) (fun _ _ _ h => h) (Or.inr ⟨by rfl, rfl⟩) hHeld ?_
    try simp only [yA, yB, yC, Act.put, yD, yE, yF]
    refine tkH 19 (v := ?v86) rfl (by kernel_rfl) (fun _ _ _ h => h) (Or.inl ⟨by rfl, ?hy86⟩) hHeld ?_
    case hy86 => (intro w hSw; clear hSw; go_simp; try with_reducible rfl)
    try simp only [yA, yB, yC, Act.put, yD, yE, yF]
    refine tkH 20 (v := ?v87) rfl (by kernel_rfl) (fun _ _ _ h => h) (Or.inl ⟨by rfl, ?hy87⟩) hHeld ?_
    case hy87 => (intro w hSw; clear hSw; go_simp; try with_reducible rfl)
    try simp only [yA, yB, yC, Act.put, yD, yE, yF]
    refine tkH 21 (v := undef) rfl (by kernel_rfl) (fun _ _ _ h => h) (Or.inr ⟨by rfl, rfl⟩) hHeld ?_
    try simp only [yA, yB, yC, Act.put, yD, yE, yF]
    refine tkH 22 (v := undef) rfl (by kernel_rfl) (fun _ _ _ h => h) (Or.inr ⟨by rfl, rfl⟩) hHeld ?_
    try simp only [yA, yB, yC, Act.put, yD, yE, yF]
    refine tkH 23 (v := undef) rfl (by kernel_rfl) (fun _ _ _ h => h) (Or.inr ⟨by rfl, rfl⟩) hHeld ?_
    try simp only [yA, yB, yC, Act.put, yD, yE, yF]
    refine tkH 24 (v := undef) rfl (by kernel_rfl) (fun _ _ _ h => h) (Or.inr ⟨by rfl, rfl⟩) hHeld ?_
    try simp only [yA, yB, yC, Act.put, yD, yE, yF]
    refine tkH 25 (v := undef) rfl (by kernel_rfl) (fun _ _ _ h => h) (Or.inr ⟨by rfl, rfl⟩) hHeld ?_
    try simp only [yA, yB, yC, Act.put, yD, yE, yF]
    refine tkH 26 (v := undef) rfl (by kernel_rfl) (fun _ _ _ h => h) (Or.inr ⟨by rfl, rfl⟩) hHeld ?_
    try simp only [yA, yB, yC, Act.put, yD, yE, yF]
    refine tkH 27 (v := undef) rfl (by kernel_rfl) (fun _ _ _ h => h) (Or.inr ⟨by rfl, rfl⟩) hHeld ?_
    try simp only [yA, yB, yC, Act.put, yD, yE, yF]
    refine tkH 28 (v := undef) rfl (by kernel_rfl) (fun _ _ _ h => h) (Or.inr ⟨by rfl, rfl⟩) hHeld ?_
    try simp only [yA, yB, yC, Act.put, yD, yE, yF]
    refine tkH 29 (v := undef) rfl (by kernel_rfl) (fun _ _ _ h => h) (Or.inr ⟨by rfl, rfl⟩) hHeld ?_
    try simp only [yA, yB, yC, Act.put, yD, yE, yF]
    refine tkH 30 (v := undef) rfl (by kernel_rfl) (fun _ _ _ h => h) (Or.inr ⟨by rfl, rfl⟩) hHeld ?_
    try simp only [yA, yB, yC, Act.put, yD, yE, yF]
    refine tkH 31 (v := undef) rfl (by kernel_rfl) (fun _ _ _ h => h) (Or.inr ⟨by rfl, rfl⟩) hHeld ?_
    try simp only [yA, yB, yC, Act.put, yD, yE, yF]
    refine tkH 32 (v := ?v99) rfl (by kernel_rfl) (fun _ _ _ h => h) (Or.inl ⟨by rfl, ?hy99⟩) hHeld ?_
    case hy99 => (intro w hSw; clear hSw; go_simp; try with_reducible rfl)
    try simp only [yA, yB, yC, Act.put, yD, yE, yF]
    refine wpAnyH_done (by kernel_rfl) ?_ _
    go_wp2_with fail
    go_meet
    exact ⟨rfl, hHeld, hC1⟩
   | false =>
    cases A with
    | false =>
     obtain rfl : R = false := by rw [hR]; rfl
     clear hR HR pt pw
     refine wp_region_held_drew (S := fun w' => Blk P (unc c (.slice ta Hs.length tk)) 166 w') (by kernel_rfl) b0.drew (fun hHeld => ?_)
     refine tkH 0 (v := ?v100) rfl (by kernel_rfl) (fun _ _ _ h => h) (Or.inl ⟨by rfl, ?hy100⟩) hHeld ?_
     case hy100 => (intro w hSw; clear hSw; go_simp; try with_reducible rfl)
     try simp only [yA, yB, yC, Act.put, yD, yE, yF]
     refine tkH 1 (v := ?v101) rfl (by kernel_rfl) (fun _ _ _ h => h) (Or.inl ⟨by rfl, ?hy101⟩) hHeld ?_
     case hy101 => (intro w hSw; clear hSw; go_simp; try with_reducible rfl)
     try simp only [yA, yB, yC, Act.put, yD, yE, yF]
     refine tkH 2 (v := ?v102) rfl (by kernel_rfl) (fun _ _ _ h => h) (Or.inl ⟨by rfl, ?hy102⟩) hHeld ?_
     case hy102 => (intro w hSw; clear hSw; go_simp; try with_reducible rfl)
     try simp only [yA, yB, yC, Act.put, yD, yE, yF]
     refine' tkH 3 (v := _) rfl (by kernel_rfl) (fun _ _ _ h => h) (yieldsIf_load_mid (by rfl) _ _ rfl P 0 rfl (col c) _ ?hS103 Tryz.underlying78 rfl sizeCo) hHeld ?_
     case hS103 => exact fun w h => h.range 0 _ (unc_core _ _)
     try simp only [yA, yB, yC, Act.put, yD, yE, yF]
     refine wpAnyH_ready (rs := [4]) (by kernel_rfl) (by simp) ?_
     refine AllReadyH.cons rfl (fun K hK => ?_) (AllReadyH.nil)
     go_simp
     go_wp2_with (refine (pg _).mono ?_; rintro r u1 ⟨rfl, hb⟩)
     have hC1 := hC0.trans (hb.mono hC0.size)
     refine hK.out _ _ (hHeld.below hb) (fun hHeld => ?_)
     clear hK K hb hC0
     refine tkH 5 (v := ?v104) rfl (by kernel_rfl) (fun _ _ _ h => h) (Or.inl ⟨by rfl, ?hy104⟩) hHeld ?_
     case hy104 => (intro w hSw; clear hSw; go_simp; try with_reducible rfl)
     try simp only [yA, yB, yC, Act.put, yD, yE, yF]
     refine tkH 6 (v := ?v105) rfl (by kernel_rfl) (fun _ _ _ h => h) (Or.inl ⟨by rfl, ?hy105⟩) hHeld ?_
     case hy105 => (intro w hSw; clear hSw; go_simp; try with_reducible rfl)
     try simp only [yA, yB, yC, Act.put, yD, yE, yF]
     refine tkH 7 (v := ?v106) rfl (by kernel_rfl) (fun _ _ _ h => h) (Or.inl ⟨by rfl, ?hy106⟩) hHeld ?_
     case hy106 => (intro w hSw; clear hSw; go_simp; try with_reducible rfl)
     try simp only [yA, yB, yC, Act.put, yD, yE, yF]
     refine tkH 8 (v := ?v107) rfl (by kernel_rfl) (fun _ _ _ h => h) (Or.inl ⟨by rfl, ?hy107⟩) hHeld ?_
     case hy107 => (intro w hSw; clear hSw; go_simp; try with_reducible rfl)
     try simp only [yA, yB, yC, Act.put, yD, yE, yF]
     refine tkH 9 (v := ?v108) rfl (by kernel_rfl) (fun _ _ _ h => h) (Or.inl ⟨by rfl, ?hy108⟩) hHeld ?_
     case hy108 => (intro w hSw; clear hSw; go_simp; try with_reducible rfl)
     try simp only [yA, yB, yC, Act.put, yD, yE, yF]
     refine tkH 10 (v := ?v109) rfl (by kernel_rfl) (fun _ _ _ h => h) (Or.inl ⟨by rfl, ?hy109⟩) hHeld ?_
     case hy109 => (intro w hSw; have hc : w.cell? ⟨P, 59, none⟩ = some (.bool false) := (hSw.cell 59 (.bool c.rdy) rfl).trans (by rw [hr]); clear hSw; go_simp; try with_reducible rfl)
     try simp only [yA, yB, yC, Act.put, yD, yE, yF]
     refine tkH 11 (v := ?v110) rfl (by kernel_rfl) (fun _ _ _ h => h) (Or.inl ⟨by rfl, ?hy110⟩) hHeld ?_
     case hy110 => (intro w hSw; clear hSw; go_simp; try with_reducible rfl)
     try simp only [yA, yB, yC, Act.put, yD, yE, yF]
     refine tkH 12 (v := ?v111) rfl (by kernel_rfl) (fun _ _ _ h => h) (Or.inl ⟨by rfl, ?hy111⟩) hHeld ?_
     case hy111 => (intro w hSw; clear hSw; go_simp; try with_reducible rfl)
     try simp only [yA, yB, yC, Act.put, yD, yE, yF]
     refine tkH 13 (v := ?v112) rfl (by kernel_rfl) (fun _ _ _ h => h) (Or.inl ⟨by rfl, ?hy112⟩) hHeld ?_
     case hy112 => (intro w hSw; clear hSw; go_simp; try with_reducible rfl)
     try simp only [yA, yB, yC, Act.put, yD, yE, yF]
     refine tkH 14 (v := ?v113) rfl (by kernel_rfl) (fun _ _ _ h => h) (Or.inl ⟨by rfl, ?hy113⟩) hHeld ?_
     case hy113 => (intro w hSw; clear hSw; go_simp; try with_reducible rfl)
     try simp only [yA, yB, yC, Act.put, yD, yE, yF]
     refine tkH 15 (v := ?v114) rfl (by kernel_rfl) (fun _ _ _ h => h) (Or.inl ⟨by rfl, ?hy114⟩) hHeld ?_
     case hy114 => (intro w hSw; clear hSw; go_simp; try with_reducible rfl)
     try simp only [yA, yB, yC, Act.put, yD, yE, yF]
     refine tkH 16 (v := ?v115) rfl (by kernel_rfl) (fun _ _ _ h => h) (Or.inl ⟨by rfl, ?hy115⟩) hHeld ?_
     case hy115 => (intro w hSw; clear hSw; go_simp; try with_reducible rfl)
     try simp only [yA, yB, yC, Act.put, yD, yE, yF]
     refine' tkH 17 (v := _) rfl (by kernel_rfl) (fun _ _ _ h => h) (yieldsIf_load_mid (by rfl) _ _ rfl P 0 rfl (col c) _ ?hS116 Tryz.underlying78 rfl sizeCo) hHeld ?_
     case hS116 => exact fun w h => h.range 0 _ (unc_core _ _)
     try simp only [yA, yB, yC, Act.put, yD, yE, yF]
     refine wpAnyH_ready (rs := [18]) (by kernel_rfl) (by simp) ?_
     refine AllReadyH.cons rfl (fun K hK => ?_) (AllReadyH.nil)
     go_simp
     go_wp2_with (refine (pa _).mono ?_; rintro r u2 ⟨rfl, hb⟩)
     have hC2 := hC1.trans (hb.mono hC1.size)
     refine hK.out _ _ (hHeld.below hb) (fun hHeld => ?_)
     clear hK K hb hC1
     refine tkH 19 (v := ?v117) rfl (by kernel_rfl) (fun _ _ _ h => h) (Or.inl ⟨by rfl, ?hy117⟩) hHeld ?_
     case hy117 => (intro w hSw; clear hSw; go_simp; try with_reducible rfl)
     try simp only [yA, yB, yC, Act.put, yD, yE, yF]
     refine tkH 20 (v := ?v118) rfl (by kernel_rfl) (fun _ _ _ h => h) (Or.inl ⟨by rfl, ?hy118⟩) hHeld ?_
     case hy118 => (intro w hSw; clear hSw; go_simp; try with_reducible rfl)
     try simp only [yA, yB, yC, Act.put, yD, yE, yF]
     refine tkH 21 (v := undef) rfl (by kernel_rfl) (fun _ _ _ h => h) (Or.inr ⟨by rfl, rfl⟩) hHeld ?_
     try simp only [yA, yB, yC, Act.put, yD, yE, yF]
     refine tkH 22 (v := undef) rfl (by kernel_rfl) (fun _ _ _ h => h) (Or.inr ⟨by rfl, rfl⟩) hHeld ?_
     try simp only [yA, yB, yC, Act.put, yD, yE, yF]
     refine tkH 23 (v := undef) rfl (by kernel_rfl) (fun _ _ _ h => h) (Or.inr ⟨by rfl, rfl⟩) hHeld ?_
     try simp only [yA, yB, yC, Act.put, yD, yE, yF]
     refine tkH 24 (v := undef) rfl (by kernel_rfl) (fun _ _ _ h => h) (Or.inr ⟨by rfl, rfl⟩) hHeld ?_
     try simp only [yA, yB, yC, Act.put, yD, yE, yF]
     refine tkH 25 (v := undef) rfl (by kernel_rfl) (fun _ _ _ h => h) (Or.inr ⟨by rfl, rfl⟩) hHeld ?_
     try simp only [yA, yB, yC, Act.put, yD, yE, yF]
     refine tkH 26 (v := undef) rfl (by kernel_rfl) (fun _ _ _ h => h) (Or.inr ⟨by rfl, rfl⟩) hHeld ?_
     try simp only [yA, yB, yC, Act.put, yD, yE, yF]
     refine tkH 27 (v := undef) rfl (by kernel_rfl) (fun _ _ _ h => h) (Or.inr ⟨by rfl, rfl⟩) hHeld ?_
     try simp only [yA, yB, yC, Act.put, yD, yE, yF]
     refine tkH 28 (v := undef) rfl (by kernel_rfl) (fun _ _ _ h => h) (Or.inr ⟨by rfl, rfl⟩) hHeld ?_
     try simp only [yA, yB, yC, Act.put, yD, yE, yF]
     refine tkH 29 (v := undef) rfl (by kernel_rfl) (fun _ _ _ h => h) (Or.inr ⟨by rfl, rfl⟩) hHeld ?_
     try simp only [yA, yB, yC, Act.put, yD, yE, yF]
     refine tkH 30 (v := undef) rfl (by kernel_rfl) (fun _ _ _ h => h) (Or.inr ⟨by rfl, rfl⟩) hHeld ?_
     try simp only [yA, yB, yC, Act.put, yD, yE, yF]
     refine tkH 31 (v := undef) rfl (by kernel_rfl) (fun _ _ _ h => h) (Or.inr ⟨by rfl, rfl⟩) hHeld ?_
     try simp only [yA, yB, yC, Act.put, yD, yE, yF]
     refine tkH 32 (v := ?v130) rfl (by kernel_rfl) (fun _ _ _ h => h) (Or.inl ⟨by rfl, ?hy130⟩) hHeld ?_
     case hy130 => (intro w hSw; clear hSw; go_simp; try with_reducible rfl)
     try simp only [yA, yB, yC, Act.put, yD, yE, yF]
     refine wpAnyH_done (by kernel_rfl) ?_ _
     go_wp2_with fail
     go_meet
     exact ⟨rfl, hHeld, hC2⟩
    | true =>
     obtain rfl : R = Wn := by rw [hR]; rfl
     clear hR HR
     refine wp_region_held_drew (S := fun w' => Blk P (unc c (.slice ta Hs.length tk)) 166 w') (by kernel_rfl) b0.drew (fun hHeld => ?_)
     refine tkH 0 (v := ?v131) rfl (by kernel_rfl) (fun _ _ _ h => h) (Or.inl ⟨by rfl, ?hy131⟩) hHeld ?_
     case hy131 => (intro w hSw; clear hSw; go_simp; try with_reducible rfl)
     try simp only [yA, yB, yC, Act.put, yD, yE, yF]
     refine tkH 1 (v := ?v132) rfl (by kernel_rfl) (fun _ _ _ h => h) (Or.inl ⟨by rfl, ?hy132⟩) hHeld ?_
     case hy132 => (intro w hSw; clear hSw; go_simp; try with_reducible rfl)
     try simp only [yA, yB, yC, Act.put, yD, yE, yF]
     refine tkH 2 (v := ?v133) rfl (by kernel_rfl) (fun _ _ _ h => h) (Or.inl ⟨by rfl, ?hy133⟩) hHeld ?_
     case hy133 => (intro w hSw; clear hSw; go_simp; try with_reducible rfl)
     try simp only [yA, yB, yC, Act.put, yD, yE, yF]
     refine' tkH 3 (v := _) rfl (by kernel_rfl) (fun _ _ _ h => h) (yieldsIf_load_mid (by rfl) _ _ rfl P 0 rfl (col c) _ ?hS134 Tryz.underlying78 rfl sizeCo) hHeld ?_
     case hS134 => exact fun w h => h.range 0 _ (unc_core _ _)
     try simp only [yA, yB, yC, Act.put, yD, yE, yF]
     refine wpAnyH_ready (rs := [4]) (by kernel_rfl) (by simp) ?_
     refine AllReadyH.cons rfl (fun K hK => ?_) (AllReadyH.nil)
     go_simp
     go_wp2_with (refine (pg _).mono ?_; rintro r u1 ⟨rfl, hb⟩)
     have hC1 := hC0.trans (hb.mono hC0.size)
     refine hK.out _ _ (hHeld.below hb) (fun hHeld => ?_)
     clear hK K hb hC0
     refine tkH 5 (v := ?v135) rfl (by kernel_rfl) (fun _ _ _ h => h) (Or.inl ⟨by rfl, ?hy135⟩) hHeld ?_
     case hy135 => (intro w hSw; clear hSw; go_simp; try with_reducible rfl)
     try simp only [yA, yB, yC, Act.put, yD, yE, yF]
     refine tkH 6 (v := ?v136) rfl (by kernel_rfl) (fun _ _ _ h => h) (Or.inl ⟨by rfl, ?hy136⟩) hHeld ?_
     case hy136 => (intro w hSw; clear hSw; go_simp; try with_reducible rfl)
     try simp only [yA, yB, yC, Act.put, yD, yE, yF]
     refine tkH 7 (v := ?v137) rfl (by kernel_rfl) (fun _ _ _ h => h) (Or.inl ⟨by rfl, ?hy137⟩) hHeld ?_
     case hy137 => (intro w hSw; clear hSw; go_simp; try with_reducible rfl)
     try simp only [yA, yB, yC, Act.put, yD, yE, yF]
     refine tkH 8 (v := ?v138) rfl (by kernel_rfl) (fun _ _ _ h => h) (Or.inl ⟨by rfl, ?hy138⟩) hHeld ?_
     case hy138 => (intro w hSw; clear hSw; go_simp; try with_reducible rfl)
     try simp only [yA, yB, yC, Act.put, yD, yE, yF]
     refine tkH 9 (v := ?v139) rfl (by kernel_rfl) (fun _ _ _ h => h) (Or.inl ⟨by rfl, ?hy139⟩) hHeld ?_
     case hy139 => (intro w hSw; clear hSw; go_simp; try with_reducible rfl)
     try simp only [yA, yB, yC, Act.put, yD, yE, yF]
     refine tkH 10 (v := ?v140) rfl (by kernel_rfl) (fun _ _ _ h => h) (Or.inl ⟨by rfl, ?hy140⟩) hHeld ?_
     case hy140 => (intro w hSw; have hc : w.cell? ⟨P, 59, none⟩ = some (.bool false) := (hSw.cell 59 (.bool c.rdy) rfl).trans (by rw [hr]); clear hSw; go_simp; try with_reducible rfl)
     try simp only [yA, yB, yC, Act.put, yD, yE, yF]
     refine tkH 11 (v := ?v141) rfl (by kernel_rfl) (fun _ _ _ h => h) (Or.inl ⟨by rfl, ?hy141⟩) hHeld ?_
     case hy141 => (intro w hSw; clear hSw; go_simp; try with_reducible rfl)
     try simp only [yA, yB, yC, Act.put, yD, yE, yF]
     refine tkH 12 (v := ?v142) rfl (by kernel_rfl) (fun _ _ _ h => h) (Or.inl ⟨by rfl, ?hy142⟩) hHeld ?_
     case hy142 => (intro w hSw; clear hSw; go_simp; try with_reducible rfl)
     try simp only [yA, yB, yC, Act.put, yD, yE, yF]
     refine tkH 13 (v := ?v143) rfl (by kernel_rfl) (fun _ _ _ h => h) (Or.inl ⟨by rfl, ?hy143⟩) hHeld ?_
     case hy143 => (intro w hSw; clear hSw; go_simp; try with_reducible rfl)
     try simp only [yA, yB, yC, Act.put, yD, yE, yF]
     refine tkH 14 (v := ?v144) rfl (by kernel_rfl) (fun _ _ _ h => h) (Or.inl ⟨by rfl, ?hy144⟩) hHeld ?_
     case hy144 => (intro w hSw; clear hSw; go_simp; try with_reducible rfl)
     try simp only [yA, yB, yC, Act.put, yD, yE, yF]
     refine tkH 15 (v := ?v145) rfl (by kernel_rfl) (fun _ _ _ h => h) (Or.inl ⟨by rfl, ?hy145⟩) hHeld ?_
     case hy145 => (intro w hSw; clear hSw; go_simp; try with_reducible rfl)
     try simp only [yA, yB, yC, Act.put, yD, yE, yF]
     refine tkH 16 (v := ?v146) rfl (by kernel_rfl) (fun _ _ _ h => h) (Or.inl ⟨by rfl, ?hy146⟩) hHeld ?_
     case hy146 => (intro w hSw; clear hSw; go_simp; try with_reducible rfl)
     try simp only [yA, yB, yC, Act.put, yD, yE, yF]
     refine' tkH 17 (v := _) rfl (by kernel_rfl) (fun _ _ _ h => h) (yieldsIf_load_mid (by rfl) _ _ rfl P 0 rfl (col c) _ ?hS147 Tryz.underlying78 rfl sizeCo) hHeld ?_
     case hS147 => exact fun w h => h.range 0 _ (unc_core _ _)
     try simp only [yA, yB, yC, Act.put, yD, yE, yF]
     refine wpAnyH_ready (rs := [18]) (by kernel_rfl) (by simp) ?_
     refine AllReadyH.cons rfl (fun K hK => ?_) (AllReadyH.nil)
     go_simp
     go_wp2_with (refine (pa _).mono ?_; rintro r u2 ⟨rfl, hb⟩)
     have hC2 := hC1.trans (hb.mono hC1.size)
     refine hK.out _ _ (hHeld.below hb) (fun hHeld => ?_)
     clear hK K hb hC1
     refine tkH 19 (v := ?v148) rfl (by kernel_rfl) (fun _ _ _ h => h) (Or.inl ⟨by rfl, ?hy148⟩) hHeld ?_
     case hy148 => (intro w hSw; clear hSw; go_simp; try with_reducible rfl)
     try simp only [yA, yB, yC, Act.put, yD, yE, yF]
     refine tkH 20 (v := ?v149) rfl (by kernel_rfl) (fun _ _ _ h => h) (Or.inl ⟨by rfl, ?hy149⟩) hHeld ?_
     case hy149 => (intro w hSw; clear hSw; go_simp; try with_reducible rfl)
     try simp only [yA, yB, yC, Act.put, yD, yE, yF]
     refine tkH 21 (v := ?v150) rfl (by kernel_rfl) (fun _ _ _ h => h) (Or.inl ⟨by rfl, ?hy150⟩) hHeld ?_
     case hy150 => (intro w hSw; clear hSw; go_simp; try with_reducible rfl)
     try simp only [yA, yB, yC, Act.put, yD, yE, yF]
     refine tkH 22 (v := ?v151) rfl (by kernel_rfl) (fun _ _ _ h => h) (Or.inl ⟨by rfl, ?hy151⟩) hHeld ?_
     case hy151 => (intro w hSw; clear hSw; go_simp; try with_reducible rfl)
     try simp only [yA, yB, yC, Act.put, yD, yE, yF]
     refine tkH 23 (v := ?v152) rfl (by kernel_rfl) (fun _ _ _ h => h) (Or.inl ⟨by rfl, ?hy152⟩) hHeld ?_
     case hy152 => (intro w hSw; clear hSw; go_simp; try with_reducible rfl)
     try simp only [yA, yB, yC, Act.put, yD, yE, yF]
     refine' tkH 24 (v := _) rfl (by kernel_rfl) (fun _ _ _ h => h) (yieldsIf_load_mid (by rfl) _ _ rfl P 0 rfl (col c) _ ?hS153 Tryz.underlying78 rfl sizeCo) hHeld ?_
     case hS153 => exact fun w h => h.range 0 _ (unc_core _ _)
     try simp only [yA, yB, yC, Act.put, yD, yE, yF]
     refine tkH 26 (v := ?v154) rfl (by kernel_rfl) (fun _ _ _ h => h) (Or.inl ⟨by rfl, ?hy154⟩) hHeld ?_
     case hy154 => (intro w hSw; clear hSw; go_simp; try with_reducible rfl)
     try simp only [yA, yB, yC, Act.put, yD, yE, yF]
     refine tkH 27 (v := ?v155) rfl (by kernel_rfl) (fun _ _ _ h => h) (Or.inl ⟨by rfl, ?hy155⟩) hHeld ?_
     case hy155 => (intro w hSw; clear hSw; go_simp; try with_reducible rfl)
     try simp only [yA, yB, yC, Act.put, yD, yE, yF]
     refine tkH 28 (v := ?v156) rfl (by kernel_rfl) (fun _ _ _ h => h) (Or.inl ⟨by rfl, ?hy156⟩) hHeld ?_
     case hy156 => (intro w hSw; clear hSw; go_simp; try with_reducible rfl)
     try simp only [yA, yB, yC, Act.put, yD, yE, yF]
     refine tkH 29 (v := ?v157) rfl (by kernel_rfl) (fun _ _ _ h => h) (Or.inl ⟨by rfl, ?hy157⟩) hHeld ?_
     case hy157 => (intro w hSw; clear hSw; go_simp; try with_reducible rfl)
     try simp only [yA, yB, yC, Act.put, yD, yE, yF]
     refine' tkH 30 (v := _) rfl (by kernel_rfl) (fun _ _ _ h => h) (yieldsIf_load_mid (by rfl) _ _ rfl P 31 rfl (row8 c.count) _ ?hS158 Tryz.underlying60 rfl sizeCt) hHeld ?_
     case hS158 => exact fun w h => h.range 31 _ (un_count _ _)
     try simp only [yA, yB, yC, Act.put, yD, yE, yF]
     refine wpAnyH_ready (rs := [25]) (by kernel_rfl) (by simp) ?_
     refine AllReadyH.cons rfl (fun K hK => ?_) (AllReadyH.nil)
     go_simp
     go_wp2_with (refine (pt _).mono ?_; rintro r u3 ⟨rfl, hb⟩)
     have hC3 := hC2.trans (hb.mono hC2.size)
     refine hK.out _ _ (hHeld.below hb) (fun hHeld => ?_)
     clear hK K hb hC2
     refine wpAnyH_ready (rs := [31]) (by kernel_rfl) (by simp) ?_
     refine AllReadyH.cons rfl (fun K hK => ?_) (AllReadyH.nil)
     go_simp
     go_wp2_with (refine (pw _).mono ?_; rintro r u4 ⟨rfl, hb⟩)
     have hC4 := hC3.trans (hb.mono hC3.size)
     refine hK.out _ _ (hHeld.below hb) (fun hHeld => ?_)
     clear hK K hb hC3
     refine tkH 32 (v := ?v159) rfl (by kernel_rfl) (fun _ _ _ h => h) (Or.inl ⟨by rfl, ?hy159⟩) hHeld ?_
     case hy159 => (intro w hSw; clear hSw; go_simp; try with_reducible rfl)
     try simp only [yA, yB, yC, Act.put, yD, yE, yF]
     refine wpAnyH_done (by kernel_rfl) ?_ _
     go_wp2_with fail
     go_meet
     exact ⟨rfl, hHeld, hC4⟩
 case rest =>
  obtain ⟨rfl, bP, hb⟩ := hcut
  have kP : Kp [P] w _ := Kp.of_below hb
  clear b0 hC0 pg pa pt pw hb hR hr
  rename World => w1
  cases R with
  | true =>
   have e1 : readyC c = c.wRdy true := by rw [readyC, HR.out]; rfl
   rw [e1] at fin_no fin_yes
   clear e1 HR
   go_upto_region 2 with ((refine store_one rfl 4 _ _ rfl (off := 59) (.bool true) bP rfl rfl rfl rfl sizeBool (by rw [unc_size]; decide) ?_; intro w2 b2 k2; rw [unc_set _ _ _ 59 _ (Co.s_rdy c true) (by decide)] at b2; have kp2 := kP.trans (k2.mono (fun i hi => by simp at hi; simp [hi]))))
   try simp only [Act.put]
   replace kP := kp2
   replace bP := b2
   clear kp2 k2 b2
   obtain ⟨c1, hc1⟩ : ∃ c1, Hid (c.wRdy true = c1) := ⟨_, rfl⟩
   have bP : Blk P (unc (c.wRdy true) (.slice ta Hs.length tk)) 166 w2 := bP
   rw [hc1.out] at fin_no fin_yes bP
   clear hc1
   have pg := gathers_ok c1
   have pd := done_ok c1
   obtain ⟨g, hg⟩ : ∃ t, gathB c1 = t := ⟨_, rfl⟩
   obtain ⟨r, hr⟩ : ∃ t, c1.rdy = t := ⟨_, rfl⟩
   obtain ⟨D, hD⟩ : ∃ t, doneB c1 = t := ⟨_, rfl⟩
   have HI : Hid (insB c1 = (g && r && D)) := by show insB c1 = _; rw [insB, hg, hr, hD]
   rw [hg] at pg
   rw [hD] at pd
   have p0 := bP.cell 59 (.bool c1.rdy) rfl
   rw [hr] at p0
   clear hg hD
   go_wp2_with (refine load_part rfl 78 _ rfl (o := 0) bP rfl (col c1) (unc_core _ _) Tryz.underlying78 rfl sizeCo ?_)
   refine (pg _).mono ?_
   rintro e0 w3 ⟨rfl, hb⟩
   clear p0
   replace bP := bP.below hb
   replace kP := kP.trans (Kp.of_below hb)
   clear hb pg
   have p0 := bP.cell 59 (.bool c1.rdy) rfl
   rw [hr] at p0
   cases g with
   | false =>
    go_wp2_with fail
    go_end0
    exact ⟨rfl, fin_no _ bP kP HI.out⟩
   | true =>
    cases r with
    | false =>
     go_wp2_with fail
     go_end0
     exact ⟨rfl, fin_no _ bP kP HI.out⟩
    | true =>
     go_wp2_with (refine load_wpart rfl 78 _ rfl (o := 0) bP rfl (col c1) (unc_core _ _) Tryz.underlying78 rfl sizeCo ?_)
     refine (pd _).mono ?_
     rintro e0 w4 ⟨rfl, hb⟩
     replace bP := bP.below hb
     replace kP := kP.trans (Kp.of_below hb)
     clear hb pd p0
     cases D with
     | false =>
      go_wp2_with fail
      go_end0
      exact ⟨rfl, fin_no _ bP kP HI.out⟩
     | true =>
      go_wp2_with fail
      refine (install_ok P c1 ta tk Hs ht _ bP (LG kP)).mono ?_
      rintro e0 w5 ⟨rfl, hI⟩
      go_wp2_with fail
      go_end0
      exact ⟨rfl, fin_yes _ _ hI kP HI.out⟩
  | false =>
   have e1 : readyC c = c := by rw [readyC, HR.out]; rfl
   rw [e1] at fin_no fin_yes
   clear e1 HR
   go_upto_region 2 with fail
   have pg := gathers_ok c
   have pd := done_ok c
   obtain ⟨g, hg⟩ : ∃ t, gathB c = t := ⟨_, rfl⟩
   obtain ⟨r, hr⟩ : ∃ t, c.rdy = t := ⟨_, rfl⟩
   obtain ⟨D, hD⟩ : ∃ t, doneB c = t := ⟨_, rfl⟩
   have HI : Hid (insB c = (g && r && D)) := by show insB c = _; rw [insB, hg, hr, hD]
   rw [hg] at pg
   rw [hD] at pd
   have p0 := bP.cell 59 (.bool c.rdy) rfl
   rw [hr] at p0
   clear hg hD
   go_wp2_with (refine load_part rfl 78 _ rfl (o := 0) bP rfl (col c) (unc_core _ _) Tryz.underlying78 rfl sizeCo ?_)
   refine (pg _).mono ?_
   rintro e0 w3 ⟨rfl, hb⟩
   clear p0
   replace bP := bP.below hb
   replace kP := kP.trans (Kp.of_below hb)
   clear hb pg
   have p0 := bP.cell 59 (.bool c.rdy) rfl
   rw [hr] at p0
   cases g with
   | false =>
    go_wp2_with fail
    go_end0
    exact ⟨rfl, fin_no _ bP kP HI.out⟩
   | true =>
    cases r with
    | false =>
     go_wp2_with fail
     go_end0
     exact ⟨rfl, fin_no _ bP kP HI.out⟩
    | true =>
     go_wp2_with (refine load_wpart rfl 78 _ rfl (o := 0) bP rfl (col c) (unc_core _ _) Tryz.underlying78 rfl sizeCo ?_)
     refine (pd _).mono ?_
     rintro e0 w4 ⟨rfl, hb⟩
     replace bP := bP.below hb
     replace kP := kP.trans (Kp.of_below hb)
     clear hb pd p0
     cases D with
     | false =>
      go_wp2_with fail
      go_end0
      exact ⟨rfl, fin_no _ bP kP HI.out⟩
     | true =>
      go_wp2_with fail
      refine (install_ok P c ta tk Hs ht _ bP (LG kP)).mono ?_
      rintro e0 w5 ⟨rfl, hI⟩
      go_wp2_with fail
      go_end0
      exact ⟨rfl, fin_yes _ _ hI kP HI.out⟩
end Go.Proofs.YthgfpdidilolgaaGreat
