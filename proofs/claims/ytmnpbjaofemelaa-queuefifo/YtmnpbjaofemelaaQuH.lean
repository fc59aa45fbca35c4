/-
  What has come, been delivered, and waits, behind some frames of a play.
  No condition.
-/
import Derived.Test.YtmnpbjaofemelaaQuN
import Derived.Test.YtmnpbjaofemelaaQuP
namespace Go.Proofs.Ytmnpbjaofemelaa
set_option maxRecDepth 10000
open Go.RowKit Go.Sort
set_option linter.unusedVariables false
set_option linter.unusedSimpArgs false

structure Sq where
  c : Nat → Nat
  A : List Wt
  out : List Wt
  q : List Wt
def okF (m c : Nat → Nat) (x : Fm) : Prop := 0 ≤ x.f ∧ x.f ≤ 7 ∧ m x.f.toNat ≠ 0 ∧ x.r = c x.f.toNat + 1
def nxtF (m : Nat → Nat) (s : Sq) (d : Nat) (l : List En) : Sq :=
  ⟨up8 s.c d, addQ (d : Int) (s.c d + 1) 0 l s.A, s.out ++ rdyQ (up8 s.c d) m true (addQ (d : Int) (s.c d + 1) 0 l s.q), rstQ (up8 s.c d) m true (addQ (d : Int) (s.c d + 1) 0 l s.q)⟩
/- s behind a frame is s'. -/
def StpF (m : Nat → Nat) (s : Sq) (x : Fm) (s' : Sq) : Prop := (okF m s.c x ∧ s' = nxtF m s x.f.toNat (x.L.take 4)) ∨ (¬ okF m s.c x ∧ s' = s)
def RunF (m : Nat → Nat) (L : List Fm) : Nat → Sq → Prop
  | 0, s => s = ⟨fun _ => 0, [], [], []⟩
  | i + 1, s => ∃ s0 x, RunF m L i s0 ∧ L[i]? = some x ∧ StpF m s0 x s
theorem run_yes {m : Nat → Nat} {L : List Fm} {i : Nat} {s : Sq} {x : Fm} (h : RunF m L i s) (hx : L[i]? = some x) {d : Nat} (hd : x.f = (d : Int)) (hd8 : d < 8) (hm : m d ≠ 0) (hr : x.r = s.c d + 1) : RunF m L (i + 1) (nxtF m s d (x.L.take 4)) := by
  have e : x.f.toNat = d := by omega
  refine ⟨s, x, h, hx, .inl ⟨⟨by omega, by omega, by rw [e]; exact hm, by rw [e]; exact hr⟩, by rw [e]⟩⟩
theorem run_no {m : Nat → Nat} {L : List Fm} {i : Nat} {s : Sq} {x : Fm} (h : RunF m L i s) (hx : L[i]? = some x) (hn : ¬ okF m s.c x) : RunF m L (i + 1) s := ⟨s, x, h, hx, .inr ⟨hn, rfl⟩⟩
theorem run_one {m : Nat → Nat} {L : List Fm} : ∀ {i : Nat} {s s' : Sq}, RunF m L i s → RunF m L i s' → s = s'
  | 0, s, s', h, h' => h.trans h'.symm
  | i + 1, s, s', ⟨t, x, h1, h2, h3⟩, ⟨t', x', k1, k2, k3⟩ => by
    obtain rfl := run_one h1 k1
    rw [h2] at k2
    injection k2 with k2
    subst k2
    rcases h3 with ⟨a, rfl⟩ | ⟨a, rfl⟩ <;> rcases k3 with ⟨b, rfl⟩ | ⟨b, rfl⟩ <;> first | rfl | exact absurd a b | exact absurd b a
structure RunOk (m : Nat → Nat) (i : Nat) (s : Sq) : Prop where
  J : JQ m s.c s.A s.out s.q
  cl : ∀ d, s.c d ≤ i
  al : s.A.length ≤ 4 * i
  fit : ∀ x ∈ s.A, x.fit
theorem RunOk.fq {m : Nat → Nat} {i : Nat} {s : Sq} (h : RunOk m i s) : ∀ x ∈ s.q, x.fit := fun x hx => h.fit x (h.J.inq x hx)
theorem RunOk.lens {m : Nat → Nat} {i : Nat} {s : Sq} (h : RunOk m i s) : s.out.length + s.q.length ≤ 4 * i := by
  have := h.J.len
  have := h.al
  omega
theorem run_ok {m : Nat → Nat} {L : List Fm} : ∀ {i : Nat} {s : Sq}, i ≤ 60 → RunF m L i s → RunOk m i s
  | 0, s, _, h => by
    subst h
    exact ⟨JQ.start m _, fun _ => Nat.le_refl _, Nat.le_refl _, fun _ h => by cases h⟩
  | i + 1, s, hi, ⟨s0, x, h1, h2, h3⟩ => by
    have ih := run_ok (by omega) h1
    rcases h3 with ⟨⟨a, b, c, d⟩, rfl⟩ | ⟨_, rfl⟩
    · have hd8 : x.f.toNat < 8 := by omega
      generalize x.f.toNat = d9 at *
      have hdm : d9 ∈ lst m := (mem_lst m d9).2 ⟨hd8, c⟩
      have hc9 := ih.cl d9
      have hlt : (x.L.take 4).length ≤ 4 := by rw [List.length_take]; omega
      refine ⟨ih.J.step hdm (x.L.take 4), fun e => ?_, ?_, ?_⟩
      · show up8 s0.c d9 e ≤ i + 1
        have := ih.cl e
        unfold up8
        split <;> omega
      · show (addQ _ _ _ _ _).length ≤ _
        have := addQ_size (d9 : Int) (s0.c d9 + 1) (x.L.take 4) 0 s0.A
        have := ih.al
        omega
      · exact addQ_fit (d9 : Int) (s0.c d9 + 1) (by omega) (by omega) (x.L.take 4) 0 s0.A (by omega) ih.fit
    · exact ⟨ih.J, fun e => Nat.le_succ_of_le (ih.cl e), by have := ih.al; omega, ih.fit⟩

end Go.Proofs.Ytmnpbjaofemelaa
