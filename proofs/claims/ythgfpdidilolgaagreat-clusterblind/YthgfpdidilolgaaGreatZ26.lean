/-
  Of the texts beneath these laws, in their order: CbM.
  Each theorem says its own conditions.
-/
import Derived.Test.YthgfpdidilolgaaGreatZ25
namespace Go.Proofs.YthgfpdidilolgaaGreat
set_option maxRecDepth 10000
open Go.RowKit Go.Sort
set_option linter.unusedVariables false
def pq3 (p : Pk) (g0 g1 g2 : Nat → En) : Pk := ⟨p.n, p.lt, p.r, g0, g1, g2⟩
structure Bl (s u : Os) : Prop where
 hL : likes s.L u.L
 hc : s.c = u.c
 ht : likes s.t u.t
theorem Bl.step {m o : Nat → Nat} {s t : Os} (h : Bl s t) (x y : Kt) (hxy : x.like y) : Bl (stepO m o s x) (stepO m o t y) := by
 have e : offB s.c m o x = offB t.c m o y := by
  unfold offB takesB
  rw [hxy.1, hxy.2, h.hc]
 cases hb : offB s.c m o x with
 | false =>
  rw [step_no m o s x hb, step_no m o t y (by rw [← e]; exact hb)]
  exact h
 | true =>
  rw [step_yes m o s x hb, step_yes m o t y (by rw [← e]; exact hb)]
  refine ⟨likes_snoc _ _ _ _ (likes_young x y hxy _ _ h.hL) hxy, ?_, likes_snoc _ _ _ _ h.ht hxy⟩
  show takeC s.c x = takeC t.c y
  unfold takeC
  rw [hxy.1, hxy.2, h.hc]
theorem Bl.offer {m o : Nat → Nat} {s u : Os} (h0 : Bl s u) (p : Pk) (g0 g1 g2 : Nat → En) : Bl (offO m o p s) (offO m o (pq3 p g0 g1 g2) u) := by
 have h1 : Bl (firstO m o p s) (firstO m o (pq3 p g0 g1 g2) u) := by
  unfold firstO
  show Bl (if 1 < p.n 34 then _ else _) (if 1 < p.n 34 then _ else _)
  split
  ·exact h0.step (kO p) (kO (pq3 p g0 g1 g2)) ⟨rfl, rfl⟩
  ·exact h0
 exact (h1.step (kN p) (kN (pq3 p g0 g1 g2)) ⟨rfl, rfl⟩).step (kR p) (kR (pq3 p g0 g1 g2)) ⟨rfl, rfl⟩
theorem Bs.off3 {s u : Sg} (h : Bs s u) (p : Pk) (g0 g1 g2 : Nat → En) : Bs (offS s p) (offS u (pq3 p g0 g1 g2)) := by
 obtain ⟨sc, sL, st⟩ := s
 obtain ⟨uc, uL, ut⟩ := u
 obtain ⟨hc, hL, ht⟩ := h
 obtain ⟨a, n, k, e⟩ := eq_kp hc
 change sc = uc.kp a n k at e
 subst e
 unfold offS
 show Bs (if (mostB uc && Idn.same p.conf uc.conf) = true then offedS ⟨uc.kp a n k, sL, st⟩ p else ⟨uc.kp a n k, sL, st⟩) (if (mostB uc && Idn.same p.conf uc.conf) = true then offedS ⟨uc, uL, ut⟩ (pq3 p g0 g1 g2) else ⟨uc, uL, ut⟩)
 cases mostB uc && Idn.same p.conf uc.conf
 ·exact ⟨fun _ _ _ => rfl, hL, ht⟩
 ·have h0 : Bl ⟨sL, uc.count, []⟩ ⟨uL, uc.count, []⟩ := ⟨hL, rfl, trivial⟩
  have h1 := h0.offer (m := uc.mem) (o := mostC uc) p g0 g1 g2
  refine ⟨fun a' n' k' => ?_, h1.hL, ?_⟩
  ·show (uc.wCount (offO uc.mem (mostC uc) p ⟨sL, uc.count, []⟩).c).kp a' n' k' = (uc.wCount (offO uc.mem (mostC uc) (pq3 p g0 g1 g2) ⟨uL, uc.count, []⟩).c).kp a' n' k'
   rw [h1.hc]
  ·show (st ++ (offO uc.mem (mostC uc) p ⟨sL, uc.count, []⟩).t.map takeH).map Hp.bare = (ut ++ (offO uc.mem (mostC uc) (pq3 p g0 g1 g2) ⟨uL, uc.count, []⟩).t.map takeH).map Hp.bare
   have ht' : st.map Hp.bare = ut.map Hp.bare := ht
   rw [List.map_append, List.map_append, ht', likes_takeH _ _ h1.ht]
theorem Bs.recv3 {c d : Co} {L M : List Kt} (hc : ∀ a n k, c.kp a n k = d.kp a n k) (hL : likes L M) (p : Pk) (g0 g1 g2 : Nat → En) : Bs (recvS c L p) (recvS d M (pq3 p g0 g1 g2)) := by
 obtain ⟨a, n, k, rfl⟩ := eq_kp hc
 unfold recvS
 show Bs (if heedB d p = true then recvY (d.kp a n k) L p else ⟨d.kp a n k, L, []⟩) (if heedB d p = true then recvY d M (pq3 p g0 g1 g2) else ⟨d, M, []⟩)
 cases heedB d p
 ·exact ⟨fun _ _ _ => rfl, hL, rfl⟩
 ·have h0 : ∀ a' n' k', (recv0 (d.kp a n k) p).kp a' n' k' = (recv0 d (pq3 p g0 g1 g2)).kp a' n' k' := fun a' n' k' => by
   unfold recv0 adopC
   show Co.kp (if adoptB d.pr d.self d.own p = true then _ else _) a' n' k' = Co.kp (if adoptB d.pr d.self d.own p = true then _ else _) a' n' k'
   cases adoptB d.pr d.self d.own p <;> rfl
  have h1 : Bs ⟨recv0 (d.kp a n k) p, L, []⟩ ⟨recv0 d (pq3 p g0 g1 g2), M, []⟩ := ⟨h0, hL, rfl⟩
  exact (h1.off3 p g0 g1 g2).goOn
theorem Bs.tick3 {c d : Co} {L M : List Kt} (hc : ∀ a n k, c.kp a n k = d.kp a n k) (hL : likes L M) (f g : Nat → En) : Bs (tickS c L f) (tickS d M g) := by
 obtain ⟨a, n, k, rfl⟩ := eq_kp hc
 have h0 : ∀ a' n' k', (tick0 (d.kp a n k)).kp a' n' k' = (tick0 d).kp a' n' k' := fun a' n' k' => by
  unfold tick0
  show (proposeC ((d.wBeat (tickB d.beat)).kp a n k) (reachC (d.wBeat (tickB d.beat)))).kp a' n' k' = _
  rw [propose_kp]
  rfl
 have h1 : Bs ⟨tick0 (d.kp a n k), L, []⟩ ⟨tick0 d, M, []⟩ := ⟨h0, hL, rfl⟩
 exact h1.goOn.send f g
end Go.Proofs.YthgfpdidilolgaaGreat
