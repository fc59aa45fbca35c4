/-
  What follows of an offer: how long the lists are; what is taken, and what the counts become.
  No condition.
-/
import Derived.Test.YthgmecgknhphmaaKtH
namespace Go.Proofs.Ythgmecgknhphmaa
set_option maxRecDepth 10000
open Go.RowKit Go.Sort

theorem first_len (m o : Nat → Nat) (p : Pk) (s : Os) : (firstO m o p s).L.length ≤ s.L.length + 1 := by
  unfold firstO
  split
  · exact step_len m o s (kO p)
  · omega
theorem first_tlen (m o : Nat → Nat) (p : Pk) (s : Os) : (firstO m o p s).t.length ≤ s.t.length + 1 := by
  unfold firstO
  split
  · exact step_tlen m o s (kO p)
  · omega
theorem offO_len (m o : Nat → Nat) (p : Pk) (s : Os) : (offO m o p s).L.length ≤ s.L.length + 3 := by
  have h1 := first_len m o p s
  have h2 := step_len m o (firstO m o p s) (kN p)
  have h3 := step_len m o (stepO m o (firstO m o p s) (kN p)) (kR p)
  unfold offO
  omega
theorem offO_tlen (m o : Nat → Nat) (p : Pk) (s : Os) : (offO m o p s).t.length ≤ s.t.length + 3 := by
  have h1 := first_tlen m o p s
  have h2 := step_tlen m o (firstO m o p s) (kN p)
  have h3 := step_tlen m o (stepO m o (firstO m o p s) (kN p)) (kR p)
  unfold offO
  omega

/- What holds of all that was offered, from counts c on. -/
structure Fol (c m o : Nat → Nat) (s : Os) : Prop where
  tk : ∀ x ∈ s.t, isM m x.fr = true ∧ x.rd ≤ o x.fr.toNat ∧ c x.fr.toNat < x.rd
  up : ∀ d, c d ≤ s.c d
  non : ∀ d, d < 8 → m d = 0 → s.c d = c d
  top : ∀ d, c d < s.c d → s.c d ≤ o d
  lt : ∀ d, s.c d < 4294967296
theorem Fol.first (L : List Kt) (c m o : Nat → Nat) (hc : ∀ i, c i < 4294967296) : Fol c m o ⟨L, c, []⟩ :=
  ⟨fun x h => by simp at h, fun d => Nat.le_refl _, fun d _ _ => rfl, fun d h => absurd h (Nat.lt_irrefl _), hc⟩
theorem Fol.step {c m o : Nat → Nat} {s : Os} (h : Fol c m o s) (x : Kt) : Fol c m o (stepO m o s x) := by
  cases hb : offB s.c m o x with
  | false => rw [step_no m o s x hb]; exact h
  | true =>
    rw [step_yes m o s x hb]
    unfold offB at hb
    simp only [Bool.and_eq_true] at hb
    obtain ⟨_, hb1, hb2⟩ := hb
    have ho := of_decide_eq_true hb1
    have hM : isM m x.fr = true := by
      unfold takesB at hb2
      simp only [Bool.and_eq_true] at hb2
      exact hb2.1
    obtain ⟨d, hd, hd8, hm, hr⟩ := (takesB_iff s.c m x).1 hb2
    have hdd : x.fr.toNat = d := by rw [hd]; rfl
    have hup := h.up d
    refine ⟨?_, ?_, ?_, ?_, ?_⟩
    · intro y hy
      rcases List.mem_append.1 hy with hy | hy
      · exact h.tk y hy
      · simp at hy
        subst hy
        exact ⟨hM, ho, by rw [hdd]; omega⟩
    · intro e
      show c e ≤ put8 s.c x.fr.toNat x.rd e
      unfold put8
      split
      · rename_i he; rw [he, hdd]; omega
      · exact h.up e
    · intro e he8 he
      show put8 s.c x.fr.toNat x.rd e = c e
      unfold put8
      split
      · rename_i hx; rw [hx, hdd] at he; exact absurd he hm
      · exact h.non e he8 he
    · intro e
      show c e < put8 s.c x.fr.toNat x.rd e → put8 s.c x.fr.toNat x.rd e ≤ o e
      unfold put8
      split
      · rename_i hx; intro _; rw [hx]; exact ho
      · exact h.top e
    · intro e
      show put8 s.c x.fr.toNat x.rd e < _
      unfold put8
      split
      · exact x.lt
      · exact h.lt e
theorem Fol.offer {c m o : Nat → Nat} {s : Os} (h : Fol c m o s) (p : Pk) : Fol c m o (offO m o p s) := by
  have h1 : Fol c m o (firstO m o p s) := by
    unfold firstO
    split
    · exact h.step _
    · exact h
  exact (h1.step _).step _

/- Blind: what stands in frames is of no moment. -/
def Kt.like (a b : Kt) : Prop := a.fr = b.fr ∧ a.rd = b.rd
def likes : List Kt → List Kt → Prop
  | [], [] => True
  | a :: l, b :: k => a.like b ∧ likes l k
  | _, _ => False
theorem likes_len : ∀ (l k : List Kt), likes l k → l.length = k.length
  | [], [], _ => rfl
  | a :: l, b :: k, h => by simp [likes_len l k h.2]
  | [], _ :: _, h => h.elim
  | _ :: _, [], h => h.elim
theorem likes_at : ∀ (l k : List Kt), likes l k → ∀ (j : Nat) (a b : Kt), l[j]? = some a → k[j]? = some b → a.like b
  | [], [], _, j, a, b, h, _ => by simp at h
  | x :: l, y :: k, h, 0, a, b, ha, hb => by
    simp at ha hb
    subst ha hb
    exact h.1
  | x :: l, y :: k, h, j + 1, a, b, ha, hb => by
    simp at ha hb
    exact likes_at l k h.2 j a b ha hb
  | [], _ :: _, h, _, _, _, _, _ => h.elim
  | _ :: _, [], h, _, _, _, _, _ => h.elim
theorem likes_self : ∀ l : List Kt, likes l l
  | [] => trivial
  | _ :: l => ⟨⟨rfl, rfl⟩, likes_self l⟩
theorem likes_snoc : ∀ (l k : List Kt) (a b : Kt), likes l k → a.like b → likes (l ++ [a]) (k ++ [b])
  | [], [], _, _, _, h => ⟨h, trivial⟩
  | _ :: l, _ :: k, a, b, h, hb => ⟨h.1, likes_snoc l k a b h.2 hb⟩
  | [], _ :: _, _, _, h, _ => h.elim
  | _ :: _, [], _, _, h, _ => h.elim
theorem likes_young (x y : Kt) (hxy : x.like y) : ∀ (l k : List Kt), likes l k → likes (young x l) (young y k)
  | [], [], _ => trivial
  | a :: l, b :: k, h => by
    have ih := likes_young x y hxy l k h.2
    have e : oldB x a = oldB y b := by
      unfold oldB
      rw [h.1.1, h.1.2, hxy.1, hxy.2]
    unfold young at ih ⊢
    rw [List.filter_cons, List.filter_cons, e]
    split
    · exact ⟨h.1, ih⟩
    · exact ih
  | [], _ :: _, h => h.elim
  | _ :: _, [], h => h.elim

structure Bld (f : Nat → En) (s u : Os) : Prop where
  hL : likes s.L u.L
  hc : s.c = u.c
  ht : likes s.t u.t
  hf : ∀ x ∈ u.t, x.f = f
theorem Bld.step {f : Nat → En} {m o : Nat → Nat} {s t : Os} (h : Bld f s t) (x y : Kt) (hxy : x.like y) (hy : y.f = f) : Bld f (stepO m o s x) (stepO m o t y) := by
  have e : offB s.c m o x = offB t.c m o y := by
    unfold offB takesB
    rw [hxy.1, hxy.2, h.hc]
  cases hb : offB s.c m o x with
  | false =>
    rw [step_no m o s x hb, step_no m o t y (by rw [← e]; exact hb)]
    exact h
  | true =>
    rw [step_yes m o s x hb, step_yes m o t y (by rw [← e]; exact hb)]
    refine ⟨likes_snoc _ _ _ _ (likes_young x y hxy _ _ h.hL) hxy, ?_, likes_snoc _ _ _ _ h.ht hxy, ?_⟩
    · show takeC s.c x = takeC t.c y
      unfold takeC
      rw [hxy.1, hxy.2, h.hc]
    · intro z hz
      rcases List.mem_append.1 hz with hz | hz
      · exact h.hf z hz
      · simp at hz
        rw [hz]
        exact hy
def pqf (p : Pk) (f : Nat → En) : Pk := ⟨p.n, p.lt, p.r, f, f, f⟩
theorem blind_ok (L : List Kt) (c m o : Nat → Nat) (p : Pk) (f : Nat → En) : Bld f (offO m o p ⟨L, c, []⟩) (offO m o (pqf p f) ⟨L, c, []⟩) := by
  have h0 : Bld f ⟨L, c, []⟩ ⟨L, c, []⟩ := ⟨likes_self L, rfl, trivial, fun x h => by simp at h⟩
  have h1 : Bld f (firstO m o p ⟨L, c, []⟩) (firstO m o (pqf p f) ⟨L, c, []⟩) := by
    unfold firstO
    show Bld f (if 1 < p.n 34 then _ else _) (if 1 < p.n 34 then _ else _)
    split
    · exact h0.step (kO p) (kO (pqf p f)) ⟨rfl, rfl⟩ rfl
    · exact h0
  exact (h1.step (kN p) (kN (pqf p f)) ⟨rfl, rfl⟩ rfl).step (kR p) (kR (pqf p f)) ⟨rfl, rfl⟩ rfl

end Go.Proofs.Ythgmecgknhphmaa
