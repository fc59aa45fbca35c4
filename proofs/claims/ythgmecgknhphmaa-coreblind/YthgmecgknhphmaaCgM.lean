/-
  Two cores that see the same, but for what stands in frames: they do the same, but for that.
  No condition.
-/
import Derived.Test.YthgmecgknhphmaaCeSt
namespace Go.Proofs.Ythgmecgknhphmaa
set_option maxRecDepth 10000
open Go.RowKit Go.Sort
set_option linter.unusedVariables false

def Kt.bare (x : Kt) : Kt := ⟨x.fr, x.rd, noFr, x.lt⟩
def Hp.bare (x : Hp) : Hp := ⟨x.view, x.k.bare, x.conf, x.mem⟩
def Ev.with (e : Ev) (f : Nat → En) : Ev := ⟨e.t, f, pqf e.p f⟩
theorem like_bare {x y : Kt} (h : x.like y) : x.bare = y.bare := by
  obtain ⟨a, b, f, l⟩ := x
  obtain ⟨c, d, g, m⟩ := y
  obtain ⟨h1, h2⟩ := h
  change a = c at h1
  change b = d at h2
  subst h1 h2
  rfl
theorem likes_bare : ∀ (l k : List Kt), likes l k → l.map Kt.bare = k.map Kt.bare
  | [], [], _ => rfl
  | a :: l, b :: k, h => by rw [List.map_cons, List.map_cons, like_bare h.1, likes_bare l k h.2]
  | [], _ :: _, h => h.elim
  | _ :: _, [], h => h.elim
theorem likes_takeH : ∀ (l k : List Kt), likes l k → (l.map takeH).map Hp.bare = (k.map takeH).map Hp.bare
  | [], [], _ => rfl
  | a :: l, b :: k, h => by
    rw [List.map_cons, List.map_cons, List.map_cons, List.map_cons, likes_takeH l k h.2]
    congr 1
    show Hp.mk false a.bare Idn.zero noMb = Hp.mk false b.bare Idn.zero noMb
    rw [like_bare h.1]
  | [], _ :: _, h => h.elim
  | _ :: _, [], h => h.elim
theorem Bld.offer {f : Nat → En} {m o : Nat → Nat} {s u : Os} (h0 : Bld f s u) (p : Pk) : Bld f (offO m o p s) (offO m o (pqf p f) u) := by
  have h1 : Bld f (firstO m o p s) (firstO m o (pqf p f) u) := by
    unfold firstO
    show Bld f (if 1 < p.n 34 then _ else _) (if 1 < p.n 34 then _ else _)
    split
    · exact h0.step (kO p) (kO (pqf p f)) ⟨rfl, rfl⟩ rfl
    · exact h0
  exact (h1.step (kN p) (kN (pqf p f)) ⟨rfl, rfl⟩ rfl).step (kR p) (kR (pqf p f)) ⟨rfl, rfl⟩ rfl

/- The same, but for where lists lie and for what stands in frames. -/
structure Bs (s u : Sg) : Prop where
  c : ∀ a n k, s.c.kp a n k = u.c.kp a n k
  L : likes s.L u.L
  t : s.t.map Hp.bare = u.t.map Hp.bare
theorem Bs.goOn {s u : Sg} (h : Bs s u) : Bs (goOnS s) (goOnS u) := by
  obtain ⟨sc, sL, st⟩ := s
  obtain ⟨uc, uL, ut⟩ := u
  obtain ⟨hc, hL, ht⟩ := h
  obtain ⟨a, n, k, e⟩ := eq_kp hc
  change sc = uc.kp a n k at e
  subst e
  unfold goOnS
  show Bs (if insB (readyC (uc.kp a n k)) = true then instS ⟨readyC (uc.kp a n k), sL, st⟩ else ⟨readyC (uc.kp a n k), sL, st⟩) (if insB (readyC uc) = true then instS ⟨readyC uc, uL, ut⟩ else ⟨readyC uc, uL, ut⟩)
  rw [readyC_kp]
  have e : insB ((readyC uc).kp a n k) = insB (readyC uc) := rfl
  rw [e]
  cases insB (readyC uc)
  · exact ⟨fun _ _ _ => rfl, hL, ht⟩
  · refine ⟨fun _ _ _ => rfl, trivial, ?_⟩
    show (st ++ [viewH (readyC uc)]).map Hp.bare = (ut ++ [viewH (readyC uc)]).map Hp.bare
    rw [List.map_append, List.map_append]
    have ht' : st.map Hp.bare = ut.map Hp.bare := ht
    rw [ht']
theorem Bs.send {s u : Sg} (h : Bs s u) (f g : Nat → En) : Bs (sendS s f) (sendS u g) := by
  obtain ⟨sc, sL, st⟩ := s
  obtain ⟨uc, uL, ut⟩ := u
  obtain ⟨hc, hL, ht⟩ := h
  obtain ⟨a, n, k, e⟩ := eq_kp hc
  change sc = uc.kp a n k at e
  subst e
  have e : sendB (uc.kp a n k) = sendB uc := rfl
  unfold sendS
  show Bs (if sendB (uc.kp a n k) = true then sentS ⟨uc.kp a n k, sL, st⟩ f else ⟨uc.kp a n k, sL, st⟩) (if sendB uc = true then sentS ⟨uc, uL, ut⟩ g else ⟨uc, uL, ut⟩)
  rw [e]
  cases sendB uc
  · exact ⟨fun _ _ _ => rfl, hL, ht⟩
  · have hk : (nextK uc f).like (nextK uc g) := ⟨rfl, rfl⟩
    refine ⟨fun _ _ _ => rfl, ?_, ?_⟩
    · exact likes_snoc _ _ _ _ (likes_young (nextK uc f) (nextK uc g) hk _ _ hL) hk
    · show (st ++ [takeH (nextK uc f)]).map Hp.bare = (ut ++ [takeH (nextK uc g)]).map Hp.bare
      have ht' : st.map Hp.bare = ut.map Hp.bare := ht
      rw [List.map_append, List.map_append, ht']
      rfl
theorem Bs.off {s u : Sg} (h : Bs s u) (p : Pk) (f : Nat → En) : Bs (offS s p) (offS u (pqf p f)) := by
  obtain ⟨sc, sL, st⟩ := s
  obtain ⟨uc, uL, ut⟩ := u
  obtain ⟨hc, hL, ht⟩ := h
  obtain ⟨a, n, k, e⟩ := eq_kp hc
  change sc = uc.kp a n k at e
  subst e
  unfold offS
  show Bs (if (mostB uc && Idn.same p.conf uc.conf) = true then offedS ⟨uc.kp a n k, sL, st⟩ p else ⟨uc.kp a n k, sL, st⟩) (if (mostB uc && Idn.same p.conf uc.conf) = true then offedS ⟨uc, uL, ut⟩ (pqf p f) else ⟨uc, uL, ut⟩)
  cases mostB uc && Idn.same p.conf uc.conf
  · exact ⟨fun _ _ _ => rfl, hL, ht⟩
  · have h0 : Bld f ⟨sL, uc.count, []⟩ ⟨uL, uc.count, []⟩ := ⟨hL, rfl, trivial, fun x h => by simp at h⟩
    have h1 := h0.offer (m := uc.mem) (o := mostC uc) p
    refine ⟨fun a' n' k' => ?_, h1.hL, ?_⟩
    · show (uc.wCount (offO uc.mem (mostC uc) p ⟨sL, uc.count, []⟩).c).kp a' n' k' = (uc.wCount (offO uc.mem (mostC uc) (pqf p f) ⟨uL, uc.count, []⟩).c).kp a' n' k'
      rw [h1.hc]
    · show (st ++ (offO uc.mem (mostC uc) p ⟨sL, uc.count, []⟩).t.map takeH).map Hp.bare = (ut ++ (offO uc.mem (mostC uc) (pqf p f) ⟨uL, uc.count, []⟩).t.map takeH).map Hp.bare
      have ht' : st.map Hp.bare = ut.map Hp.bare := ht
      rw [List.map_append, List.map_append, ht', likes_takeH _ _ h1.ht]
theorem Bs.step {c d : Co} {L M : List Kt} (hc : ∀ a n k, c.kp a n k = d.kp a n k) (hL : likes L M) (e : Ev) (f : Nat → En) : Bs (stepS c L e) (stepS d M (e.with f)) := by
  obtain ⟨a, n, k, rfl⟩ := eq_kp hc
  unfold stepS
  show Bs (if e.t = true then tickS (d.kp a n k) L e.f else recvS (d.kp a n k) L e.p) (if e.t = true then tickS d M f else recvS d M (pqf e.p f))
  cases e.t
  · show Bs (recvS (d.kp a n k) L e.p) (recvS d M (pqf e.p f))
    unfold recvS
    show Bs (if heedB d e.p = true then recvY (d.kp a n k) L e.p else ⟨d.kp a n k, L, []⟩) (if heedB d e.p = true then recvY d M (pqf e.p f) else ⟨d, M, []⟩)
    cases heedB d e.p
    · exact ⟨fun _ _ _ => rfl, hL, rfl⟩
    · have h0 : ∀ a' n' k', (recv0 (d.kp a n k) e.p).kp a' n' k' = (recv0 d (pqf e.p f)).kp a' n' k' := fun a' n' k' => by
        unfold recv0 adopC
        show Co.kp (if adoptB d.pr d.self d.own e.p = true then _ else _) a' n' k' = Co.kp (if adoptB d.pr d.self d.own e.p = true then _ else _) a' n' k'
        cases adoptB d.pr d.self d.own e.p <;> rfl
      have h1 : Bs ⟨recv0 (d.kp a n k) e.p, L, []⟩ ⟨recv0 d (pqf e.p f), M, []⟩ := ⟨h0, hL, rfl⟩
      exact (h1.off e.p f).goOn
  · have h0 : ∀ a' n' k', (tick0 (d.kp a n k)).kp a' n' k' = (tick0 d).kp a' n' k' := fun a' n' k' => by
      unfold tick0
      show (proposeC ((d.wBeat (tickB d.beat)).kp a n k) (reachC (d.wBeat (tickB d.beat)))).kp a' n' k' = _
      rw [propose_kp]
      rfl
    have h1 : Bs ⟨tick0 (d.kp a n k), L, []⟩ ⟨tick0 d, M, []⟩ := ⟨h0, hL, rfl⟩
    exact h1.goOn.send e.f f

end Go.Proofs.Ythgmecgknhphmaa
