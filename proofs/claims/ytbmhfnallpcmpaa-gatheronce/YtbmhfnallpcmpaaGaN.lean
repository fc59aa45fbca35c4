/-
  What is known of a daemon: what came once is nothing new when it comes again; it does not fall; two that know the same have the same target; what one proposes stands: what follows of the plain answers.
  No condition.
-/
import Derived.Test.YtbmhfnallpcmpaaGaM
namespace Go.Proofs.Ytbmhfnallpcmpaa
set_option maxRecDepth 10000
open Go.RowKit Go.Sort

def kl (a b : Pe) : Prop := a.inc < b.inc ∨ (a.inc = b.inc ∧ a.pr.lt b.pr)
theorem ord_cases (a y : Pe) : (kl y a ∧ ordP a y = -1) ∨ (kl a y ∧ ordP a y = 1) ∨ (y.inc = a.inc ∧ y.pr = a.pr ∧ ordP a y = 0) := by
  rcases cmpN_cases y.inc a.inc with ⟨h, g⟩ | ⟨h, g⟩ | ⟨h, g⟩
  · exact .inl ⟨.inl h, by simp [ordP, orI, g]⟩
  · exact .inr (.inl ⟨.inl h, by simp [ordP, orI, g]⟩)
  · rcases cmpId_cases y.pr a.pr with ⟨k, l⟩ | ⟨k, l⟩ | ⟨k, l⟩
    · exact .inl ⟨.inr ⟨h, k⟩, by simp [ordP, orI, g, l]⟩
    · exact .inr (.inl ⟨.inr ⟨h.symm, k⟩, by simp [ordP, orI, g, l]⟩)
    · exact .inr (.inr ⟨h, k, by simp [ordP, orI, g, l]⟩)
theorem kl_irrefl (a : Pe) : ¬ kl a a := by
  rintro (h | ⟨_, h⟩)
  · omega
  · exact Idn.lt_irrefl _ h
theorem kl_trans {a b c : Pe} (h : kl a b) (k : kl b c) : kl a c := by
  rcases h with h | ⟨h, h'⟩ <;> rcases k with k | ⟨k, k'⟩
  · exact .inl (by omega)
  · exact .inl (by omega)
  · exact .inl (by omega)
  · exact .inr ⟨by omega, Idn.lt_trans h' k'⟩
theorem kl_same {a b c : Pe} (h0 : a.inc = b.inc) (h1 : a.pr = b.pr) (h : kl b c) : kl a c := by
  rcases h with h | ⟨h, h'⟩
  · exact .inl (by omega)
  · exact .inr ⟨by omega, by rw [h1]; exact h'⟩
theorem kl_same' {a b c : Pe} (h0 : b.inc = c.inc) (h1 : b.pr = c.pr) (h : kl a b) : kl a c := by
  rcases h with h | ⟨h, h'⟩
  · exact .inl (by omega)
  · exact .inr ⟨by omega, by rw [← h1]; exact h'⟩
theorem ord_low {a y : Pe} (h : kl y a) : ordP a y = -1 := by
  rcases ord_cases a y with ⟨_, e⟩ | ⟨k, _⟩ | ⟨h0, h1, _⟩
  · exact e
  · exact absurd (kl_trans h k) (kl_irrefl _)
  · exact absurd (kl_same h0.symm h1.symm h) (kl_irrefl _)
theorem ord_same {a y : Pe} (h0 : y.inc = a.inc) (h1 : y.pr = a.pr) : ordP a y = 0 := by
  rcases ord_cases a y with ⟨k, _⟩ | ⟨k, _⟩ | ⟨_, _, e⟩
  · exact absurd (kl_same' h0.symm h1.symm k) (kl_irrefl _)
  · exact absurd (kl_same h0 h1 k) (kl_irrefl _)
  · exact e

theorem tog_key (x y : Pe) : (togP x y).inc = x.inc ∧ (togP x y).pr = x.pr ∧ (togP x y).rdy = (x.rdy || y.rdy) := by
  unfold togP
  split
  · exact ⟨rfl, rfl, rfl⟩
  · split <;> exact ⟨rfl, rfl, rfl⟩
theorem tog_conf (x y : Pe) : (cmpId y.conf x.conf = 1 ∧ (togP x y).conf = y.conf ∧ (togP x y).cut = y.cut) ∨ (y.conf = x.conf ∧ (togP x y).conf = x.conf ∧ (togP x y).cut = maxC x.cut y.cut) ∨ (cmpId y.conf x.conf = -1 ∧ (togP x y).conf = x.conf ∧ (togP x y).cut = x.cut) := by
  rcases cmpId_cases y.conf x.conf with ⟨_, e⟩ | ⟨_, e⟩ | ⟨h, e⟩
  · exact .inr (.inr ⟨e, by simp [togP, e], by simp [togP, e]⟩)
  · exact .inl ⟨e, by simp [togP, e], by simp [togP, e]⟩
  · exact .inr (.inl ⟨h, by simp [togP, e], by simp [togP, e]⟩)

/- What is known covers what is told. -/
def Cov (a y : Pe) : Prop := kl y a ∨ (y.inc = a.inc ∧ y.pr = a.pr ∧ (y.rdy = true → a.rdy = true) ∧ (y.conf.lt a.conf ∨ (y.conf = a.conf ∧ ∀ i, y.cut i ≤ a.cut i)))
theorem Pe.ext' {a b : Pe} (h0 : a.inc = b.inc) (h1 : a.conf = b.conf) (h2 : a.pr = b.pr) (h3 : a.cut = b.cut) (h4 : a.rdy = b.rdy) : a = b := by
  cases a; cases b; simp_all
theorem cov_abs {a y : Pe} (h : Cov a y) : updP a y = a := by
  rcases h with h | ⟨h0, h1, hr, h2⟩
  · simp [updP, ord_low h]
  · have e := ord_same h0 h1
    have e' : updP a y = togP a y := by simp [updP, e]
    rw [e']
    obtain ⟨k0, k1, k2⟩ := tog_key a y
    have er : (a.rdy || y.rdy) = a.rdy := by
      cases hy : y.rdy
      · simp
      · rw [hr hy]; rfl
    rw [er] at k2
    rcases tog_conf a y with ⟨c, _⟩ | ⟨c, c1, c2⟩ | ⟨c, c1, c2⟩
    · rcases h2 with h2 | ⟨h2, _⟩
      · have := cmpId_lt.2 h2; omega
      · rw [h2, cmpId_self] at c; omega
    · rcases h2 with h2 | ⟨_, h2⟩
      · rw [c] at h2; exact absurd h2 (Idn.lt_irrefl _)
      · refine Pe.ext' k0 c1 k1 ?_ k2
        rw [c2]
        funext i
        simp only [maxC]
        exact Nat.max_eq_left (h2 i)
    · exact Pe.ext' k0 c1 k1 c2 k2
theorem cov_upd (x y : Pe) : Cov (updP x y) y := by
  rcases ord_cases x y with ⟨h, e⟩ | ⟨h, e⟩ | ⟨h0, h1, e⟩
  · have : updP x y = x := by simp [updP, e]
    rw [this]; exact .inl h
  · have : updP x y = y := by simp [updP, e]
    rw [this]; exact .inr ⟨rfl, rfl, id, .inr ⟨rfl, fun _ => Nat.le_refl _⟩⟩
  · have : updP x y = togP x y := by simp [updP, e]
    rw [this]
    obtain ⟨k0, k1, k2⟩ := tog_key x y
    refine .inr ⟨by rw [k0]; exact h0, by rw [k1]; exact h1, fun h => by rw [k2, h]; simp, ?_⟩
    rcases tog_conf x y with ⟨c, c1, c2⟩ | ⟨c, c1, c2⟩ | ⟨c, c1, c2⟩
    · exact .inr ⟨c1.symm, fun i => by rw [c2]; exact Nat.le_refl _⟩
    · exact .inr ⟨by rw [c1]; exact c, fun i => by rw [c2]; exact Nat.le_max_right _ _⟩
    · exact .inl (by rw [c1]; exact cmpId_lt.1 (by omega))
theorem cov_more {a y : Pe} (z : Pe) (h : Cov a y) : Cov (updP a z) y := by
  rcases ord_cases a z with ⟨g, e⟩ | ⟨g, e⟩ | ⟨g0, g1, e⟩
  · have : updP a z = a := by simp [updP, e]
    rw [this]; exact h
  · have : updP a z = z := by simp [updP, e]
    rw [this]
    rcases h with h | ⟨h0, h1, _⟩
    · exact .inl (kl_trans h g)
    · exact .inl (kl_same h0 h1 g)
  · have : updP a z = togP a z := by simp [updP, e]
    rw [this]
    obtain ⟨k0, k1, k2⟩ := tog_key a z
    rcases h with h | ⟨h0, h1, hr, h2⟩
    · exact .inl (kl_same' k0.symm k1.symm h)
    · refine .inr ⟨by rw [k0]; exact h0, by rw [k1]; exact h1, fun h => by rw [k2, hr h]; rfl, ?_⟩
      rcases tog_conf a z with ⟨c, c1, c2⟩ | ⟨c, c1, c2⟩ | ⟨c, c1, c2⟩
      · have l := cmpId_gt.1 (show 0 < cmpId z.conf a.conf by omega)
        rcases h2 with h2 | ⟨h2, _⟩
        · exact .inl (by rw [c1]; exact Idn.lt_trans h2 l)
        · exact .inl (by rw [c1, h2]; exact l)
      · rcases h2 with h2 | ⟨h2, h3⟩
        · exact .inl (by rw [c1]; exact h2)
        · exact .inr ⟨by rw [c1]; exact h2, fun i => by rw [c2]; exact Nat.le_trans (h3 i) (Nat.le_max_left _ _)⟩
      · rcases h2 with h2 | ⟨h2, h3⟩
        · exact .inl (by rw [c1]; exact h2)
        · exact .inr ⟨by rw [c1]; exact h2, fun i => by rw [c2]; exact h3 i⟩
theorem upd_again (x y : Pe) : updP (updP x y) y = updP x y := cov_abs (cov_upd x y)
theorem upd_behind (x y z : Pe) : updP (updP (updP x y) z) y = updP (updP x y) z := cov_abs (cov_more z (cov_upd x y))

/- What is known does not fall. -/
theorem upd_rises (x y : Pe) : (x.inc < (updP x y).inc ∧ (updP x y).inc = y.inc) ∨ ((updP x y).inc = x.inc ∧ cmpId (updP x y).pr x.pr = 1) ∨
    ((updP x y).inc = x.inc ∧ cmpId (updP x y).pr x.pr = 0 ∧ cmpId (updP x y).conf x.conf = 1 ∧ ((updP x y).rdy || !x.rdy) = true) ∨
    ((updP x y).inc = x.inc ∧ cmpId (updP x y).pr x.pr = 0 ∧ cmpId (updP x y).conf x.conf = 0 ∧ (∀ i, x.cut i ≤ (updP x y).cut i) ∧ ((updP x y).rdy || !x.rdy) = true) := by
  rcases ord_cases x y with ⟨h, e⟩ | ⟨h, e⟩ | ⟨h0, h1, e⟩
  · have : updP x y = x := by simp [updP, e]
    rw [this]
    exact .inr (.inr (.inr ⟨rfl, cmpId_self _, cmpId_self _, fun _ => Nat.le_refl _, by cases x.rdy <;> rfl⟩))
  · have : updP x y = y := by simp [updP, e]
    rw [this]
    rcases h with h | ⟨h, h'⟩
    · exact .inl ⟨h, rfl⟩
    · refine .inr (.inl ⟨h.symm, ?_⟩)
      rcases cmpId_cases y.pr x.pr with ⟨k, _⟩ | ⟨_, k⟩ | ⟨k, _⟩
      · exact absurd k (Idn.lt_asymm h')
      · exact k
      · rw [k] at h'; exact absurd h' (Idn.lt_irrefl _)
  · have : updP x y = togP x y := by simp [updP, e]
    rw [this]
    obtain ⟨k0, k1, k2⟩ := tog_key x y
    have er : ((togP x y).rdy || !x.rdy) = true := by rw [k2]; cases x.rdy <;> simp
    have ep : cmpId (togP x y).pr x.pr = 0 := by rw [k1]; exact cmpId_self _
    rcases tog_conf x y with ⟨c, c1, c2⟩ | ⟨c, c1, c2⟩ | ⟨c, c1, c2⟩
    · exact .inr (.inr (.inl ⟨k0, ep, by rw [c1]; exact c, er⟩))
    · exact .inr (.inr (.inr ⟨k0, ep, by rw [c1]; exact cmpId_self _, fun i => by rw [c2]; exact Nat.le_max_left _ _, er⟩))
    · exact .inr (.inr (.inr ⟨k0, ep, by rw [c1]; exact cmpId_self _, fun i => by rw [c2]; exact Nat.le_refl _, er⟩))

/- What some have together is the least that is not below any. -/
theorem targL_le (c : Co) (i v : Nat) : ∀ (L : List Nat) (u : Nat → Nat), (L.foldl (targS c) u) i ≤ v ↔ u i ≤ v ∧ ∀ d ∈ L, goesB c d = true → (c.peers d).cut i ≤ v
  | [], u => by simp
  | d :: L, u => by
    rw [List.foldl_cons, targL_le c i v L]
    cases h : goesB c d with
    | true =>
      have e : targS c u d i = max (u i) ((c.peers d).cut i) := by simp [targS, h, maxC]
      rw [e]
      constructor
      · rintro ⟨h1, h2⟩
        refine ⟨by omega, fun k hk hg => ?_⟩
        rcases List.mem_cons.1 hk with rfl | hk
        · omega
        · exact h2 k hk hg
      · rintro ⟨h1, h2⟩
        exact ⟨by have := h2 d (by simp) h; omega, fun k hk hg => h2 k (by simp [hk]) hg⟩
    | false =>
      have e : targS c u d = u := by simp [targS, h]
      rw [e]
      constructor
      · rintro ⟨h1, h2⟩
        refine ⟨h1, fun k hk hg => ?_⟩
        rcases List.mem_cons.1 hk with rfl | hk
        · rw [h] at hg; cases hg
        · exact h2 k hk hg
      · rintro ⟨h1, h2⟩
        exact ⟨h1, fun k hk hg => h2 k (by simp [hk]) hg⟩
theorem targC_le (c : Co) (i v : Nat) : targC c i ≤ v ↔ c.cut i ≤ v ∧ ∀ d ∈ oth c.want c.self, goesB c d = true → (c.peers d).cut i ≤ v := targL_le c i v _ _

def meP (c : Co) (s : Nat) : Pe := ⟨c.want s, c.conf, c.pr, c.cut, false⟩
def theyP (c : Co) (o : Nat) (k : Nat → Nat) : Pe := ⟨c.want o, c.conf, c.pr, k, false⟩
def oneC (c : Co) (o : Nat) (k : Nat → Nat) : Co := ⟨c.self, c.wait, c.own, c.beat, c.conf, c.mem, c.count, c.ka, c.kn, c.kc, c.pr, c.want, c.cut, c.rdy, putP c.peers o (theyP c o k), c.epoch⟩
def twoC (c : Co) (s o : Nat) (k : Nat → Nat) : Co := ⟨(o : Int), c.wait, c.own, c.beat, c.conf, c.mem, c.count, c.ka, c.kn, c.kc, c.pr, c.want, k, c.rdy, putP c.peers s (meP c s), c.epoch⟩
theorem same_targ (c : Co) (s o : Nat) (k : Nat → Nat) (hs : s < 8) (ho : o < 8) (hc : c.self = (s : Int)) (hne : o ≠ s) (h1 : c.want s ≠ 0) (h2 : c.want o ≠ 0) :
    targC (oneC c o k) = targC (twoC c s o k) ∧ ∀ i, c.cut i ≤ targC (oneC c o k) i ∧ k i ≤ targC (oneC c o k) i := by
  have go : goesB (oneC c o k) o = true := by simp [goesB, matB, oneC, putP, theyP, Idn.same_self]
  have gs : goesB (twoC c s o k) s = true := by simp [goesB, matB, twoC, putP, meP, Idn.same_self]
  have po : ((oneC c o k).peers o).cut = k := by simp [oneC, putP, theyP]
  have ps : ((twoC c s o k).peers s).cut = c.cut := by simp [twoC, putP, meP]
  have mo : o ∈ oth (oneC c o k).want (oneC c o k).self := (mem_oth _ _ _).2 ⟨ho, h2, by show (o : Int) ≠ c.self; omega⟩
  have ms : s ∈ oth (twoC c s o k).want (twoC c s o k).self := (mem_oth _ _ _).2 ⟨hs, h1, by show (s : Int) ≠ (o : Int); omega⟩
  have pd : ∀ d, d ≠ o → d ≠ s → (oneC c o k).peers d = (twoC c s o k).peers d := fun d hd he => by simp [oneC, twoC, putP, hd, he]
  have gd : ∀ d, d ≠ o → d ≠ s → goesB (oneC c o k) d = goesB (twoC c s o k) d := fun d hd he => by
    unfold goesB matB
    rw [pd d hd he]
    rfl
  refine ⟨?_, fun i => ?_⟩
  · funext i
    have key : ∀ v, targC (oneC c o k) i ≤ v ↔ targC (twoC c s o k) i ≤ v := by
      intro v
      rw [targC_le, targC_le]
      constructor
      · rintro ⟨g1, g2⟩
        refine ⟨by have := g2 o mo go; rw [po] at this; exact this, fun d hd hg => ?_⟩
        by_cases e : d = s
        · rw [e, ps]; exact g1
        · obtain ⟨d8, dw, dn⟩ := (mem_oth _ _ _).1 hd
          have en : d ≠ o := fun e => dn (by rw [e]; rfl)
          rw [← pd d en e]
          exact g2 d ((mem_oth _ _ _).2 ⟨d8, dw, by show (d : Int) ≠ c.self; omega⟩) (by rw [gd d en e]; exact hg)
      · rintro ⟨g1, g2⟩
        refine ⟨by have := g2 s ms gs; rw [ps] at this; exact this, fun d hd hg => ?_⟩
        by_cases e : d = o
        · rw [e, po]; exact g1
        · obtain ⟨d8, dw, dn⟩ := (mem_oth _ _ _).1 hd
          have en : d ≠ s := fun e => dn (by rw [e]; exact hc.symm)
          rw [pd d e en]
          exact g2 d ((mem_oth _ _ _).2 ⟨d8, dw, by show (d : Int) ≠ (o : Int); omega⟩) (by rw [← gd d e en]; exact hg)
    have l1 := (key (targC (twoC c s o k) i)).2 (Nat.le_refl _)
    have l2 := (key (targC (oneC c o k) i)).1 (Nat.le_refl _)
    omega
  · have h := (targC_le (oneC c o k) i _).1 (Nat.le_refl _)
    refine ⟨h.1, ?_⟩
    have := h.2 o mo go
    rw [po] at this
    exact this

end Go.Proofs.Ytbmhfnallpcmpaa
