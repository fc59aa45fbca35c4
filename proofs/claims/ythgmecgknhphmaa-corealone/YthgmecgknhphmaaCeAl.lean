/-
  A core that hears nobody: what it is behind so many ticks.
  No condition.
-/
import Derived.Test.YthgmecgknhphmaaCeQ
import Derived.Test.YthgmecgknhphmaaCeK
namespace Go.Proofs.Ythgmecgknhphmaa
set_option maxRecDepth 10000
open Go.RowKit Go.Sort
set_option linter.unusedVariables false

structure Al (s n i : Nat) (fp : Nat → En) (c : Co) (L : List Kt) : Prop where
  self : c.self = (s : Int)
  own : c.own = n
  hd : ∀ j, c.beat.hd j = 0
  cp : c.pr = c.conf
  mem : ∀ j, c.mem j = if j = s then n else 0
  cnt : c.count s = i
  top : ∀ k ∈ L, k.fr = (s : Int) → k.rd ≤ i
  last : 0 < i → gotF (getK (s : Int) i L) = fp

theorem lst_one {m : Nat → Nat} {s n : Nat} (hs : s < 8) (hn : n ≠ 0) (h : ∀ j, m j = if j = s then n else 0) : lst m = [s] := by
  have h1 : ∀ j, (m j ≠ 0) ↔ j = s := fun j => by
    rw [h j]
    by_cases e : j = s <;> simp [e, hn]
  have h2 : ∀ j, decide (m j ≠ 0) = decide (j = s) := fun j => decide_eq_decide.2 (h1 j)
  have h3 : lst m = (List.range 8).filter (fun j => decide (j = s)) := by
    unfold lst lstTo
    congr 1
    funext j
    exact h2 j
  rw [h3]
  obtain rfl | rfl | rfl | rfl | rfl | rfl | rfl | rfl : s = 0 ∨ s = 1 ∨ s = 2 ∨ s = 3 ∨ s = 4 ∨ s = 5 ∨ s = 6 ∨ s = 7 := by omega
  all_goals rfl
theorem al_start (s n : Nat) (hs : s < 8) (wt : Int) (fp : Nat → En) (h : startB (s : Int) n wt = true) : Al s n 0 fp (startC (s : Int) n wt) [] := by
  unfold startC
  rw [if_pos h, Int.toNat_natCast]
  refine ⟨rfl, rfl, fun _ => rfl, rfl, fun j => ?_, rfl, fun k hk => by simp at hk, fun h => absurd h (Nat.lt_irrefl _)⟩
  show put8 noMb s n j = _
  unfold put8 noMb
  rfl
theorem filter_find {α : Type} (p q : α → Bool) (h : ∀ x, p x = true → q x = true) : ∀ L : List α, (L.filter q).find? p = L.find? p
  | [] => rfl
  | x :: L => by
    have ih := filter_find p q h L
    rw [List.filter_cons]
    cases hp : p x with
    | true => rw [if_pos (h x hp), List.find?_cons, hp, List.find?_cons, hp]
    | false =>
      rw [List.find?_cons, hp]
      split
      · rw [List.find?_cons, hp]; exact ih
      · exact ih

theorem al_tick {s n i : Nat} {fp : Nat → En} {c : Co} {L : List Kt} (h : Al s n i fp c L) (hs : s < 8) (hn : n ≠ 0) (hi : i ≤ 1000) (f : Nat → En) (hx : i + 1 < 4294967296) :
    tickD c L = true ∧ (tickS c L f).t = [takeH ⟨(s : Int), i + 1, f, hx⟩] ∧ gathB (tickS c L f).c = false ∧ Al s n (i + 1) f (tickS c L f).c (tickS c L f).L ∧
      ((packW (tickS c L f).c (tickS c L f).L).f0 = f ∧ (packW (tickS c L f).c (tickS c L f).L).rd = i + 1 ∧ (0 < i → (packW (tickS c L f).c (tickS c L f).L).f1 = fp) ∧ (packW (tickS c L f).c (tickS c L f).L).fr = s ∧ (packW (tickS c L f).c (tickS c L f).L).inc = n) := by
  have hl := lst_one hs hn h.mem
  -- it is settled
  have hg : gathB (c.wBeat (tickB c.beat)) = false := by
    show (!Idn.same c.pr c.conf) = false
    rw [h.cp, Idn.same_self]; rfl
  have hr : ∀ j, reachC (c.wBeat (tickB c.beat)) j = if j = s then n else 0 := by
    intro j
    show (if (j : Int) = c.self then c.own else if lateB _ (c.beat.hd j) _ = true then c.beat.inc j else 0) = _
    rw [h.self, h.own, h.hd j]
    by_cases e : j = s
    · simp [e]
    · have e' : ¬ (j : Int) = (s : Int) := by omega
      simp [e, e', lateB]
  have hu : unsB (c.wBeat (tickB c.beat)) (reachC (c.wBeat (tickB c.beat))) = false := by
    have h1 : mbSame (reachC (c.wBeat (tickB c.beat))) c.mem = true := (mbSame_iff _ _).2 fun j _ => by rw [hr j, h.mem j]
    have h2 : oth (reachC (c.wBeat (tickB c.beat))) c.self = [] := by
      unfold oth
      rw [lst_one hs hn hr, h.self]
      simp
    show (gathB _ || !mbSame _ c.mem || (oth _ c.self).any _) = false
    rw [hg, h1, h2]; rfl
  have h0 : tick0 c = c.wBeat (tickB c.beat) := by
    show proposeC _ _ = _
    rw [proposeC, hu]; rfl
  have hrd : readyC (tick0 c) = tick0 c := by
    have : rdyB (tick0 c) = false := by rw [rdyB, h0, hg]; rfl
    rw [readyC, this]; rfl
  have h1 : tick1 c L = ⟨tick0 c, L, []⟩ := by
    have : insB (readyC (tick0 c)) = false := by rw [hrd, insB, h0, hg]; rfl
    show goOnS ⟨tick0 c, L, []⟩ = _
    rw [goOnS]
    show (if insB (readyC (tick0 c)) = true then _ else _) = _
    rw [this, hrd]; rfl
  have ho : ownN (tick0 c) = i := by
    rw [h0]
    show c.count c.self.toNat = i
    rw [h.self, Int.toNat_natCast, h.cnt]
  have hd : sendB (tick0 c) = true := by
    have hm : mayB c.count c.mem c.self = true := by
      rw [h.self]
      unfold mayB leastC
      rw [Bool.and_eq_true]
      refine ⟨(isM_nat _ _).2 (by rw [hl]; simp), ?_⟩
      rw [hl, Int.toNat_natCast]
      exact decide_eq_true rfl
    have hz : decide (ownN (tick0 c) = 4294967295) = false := decide_eq_false (by rw [ho]; omega)
    rw [sendB, hz, h0, hg]
    show (!false && mayB c.count c.mem c.self && !false) = true
    rw [hm]; rfl
  have hk : nextK (tick0 c) f = ⟨(s : Int), i + 1, f, hx⟩ := by
    unfold nextK
    have e : (ownN (tick0 c) + 1) % 4294967296 = i + 1 := by rw [ho]; exact Nat.mod_eq_of_lt hx
    have e2 : (tick0 c).self = (s : Int) := by rw [h0]; exact h.self
    simp only [e, e2]
  obtain ⟨x, hxx⟩ : ∃ x, (Kt.mk (s : Int) (i + 1) f hx) = x := ⟨_, rfl⟩
  have x1 : x.fr = (s : Int) := by rw [← hxx]
  have x2 : x.rd = i + 1 := by rw [← hxx]
  have x3 : x.f = f := by rw [← hxx]
  rw [hxx] at hk ⊢
  have hS : tickS c L f = ⟨(tick0 c).wCount (takeC (tick0 c).count x), takeL L x, [takeH x]⟩ := by
    rw [tickS, h1, sendS, hd, if_pos rfl, sentS, hk]; rfl
  have hc : (tick0 c).count = c.count := by rw [h0]; rfl
  have hno : ∀ k ∈ young x L, isB (s : Int) (i + 1) k = false := by
    intro k hk
    have hm : k ∈ L := (List.mem_filter.1 hk).1
    unfold isB
    refine decide_eq_false ?_
    rintro ⟨e1, e2⟩
    have := h.top k hm e1
    omega
  have hg1 : getK (s : Int) (i + 1) (takeL L x) = some x := by
    unfold getK takeL
    rw [List.find?_append, find_none _ _ hno]
    have : isB (s : Int) (i + 1) x = true := decide_eq_true ⟨x1, x2⟩
    simp [this]
  have hg0 : 0 < i → getK (s : Int) i (takeL L x) = getK (s : Int) i L := by
    intro hpos
    have hfd : (young x L).find? (isB (s : Int) i) = L.find? (isB (s : Int) i) := by
      refine filter_find _ _ (fun k hk => ?_) L
      have := of_decide_eq_true hk
      have : oldB x k = false := decide_eq_false (by rintro ⟨_, e⟩; omega)
      rw [this]; rfl
    unfold getK takeL
    rw [List.find?_append, hfd]
    have hn2 : isB (s : Int) i x = false := decide_eq_false (by rintro ⟨_, e⟩; omega)
    cases L.find? (isB (s : Int) i) with
    | some k => rfl
    | none => simp [hn2]
  have hcs : takeC c.count x s = i + 1 := by
    unfold takeC put8
    rw [x1, Int.toNat_natCast, if_pos rfl, x2]
  rw [hS]
  refine ⟨by rw [tickD, h1]; exact hd, rfl, ?_, ⟨?_, ?_, ?_, ?_, ?_, ?_, ?_, ?_⟩, ?_, ?_, ?_, ?_, ?_⟩
  · rw [h0]; exact hg
  · show (tick0 c).self = _; rw [h0]; exact h.self
  · show (tick0 c).own = _; rw [h0]; exact h.own
  · show ∀ j, (tick0 c).beat.hd j = 0; rw [h0]; exact h.hd
  · show (tick0 c).pr = (tick0 c).conf; rw [h0]; exact h.cp
  · show ∀ j, (tick0 c).mem j = _; rw [h0]; exact h.mem
  · show takeC (tick0 c).count x s = i + 1
    rw [hc]; exact hcs
  · intro k hk e
    rcases List.mem_append.1 hk with hk | hk
    · have := h.top k (List.mem_filter.1 hk).1 e; omega
    · simp at hk; subst hk; omega
  · intro _
    show gotF (getK (s : Int) (i + 1) (takeL L x)) = f
    rw [hg1]; exact x3
  all_goals (
    have hself : ((tick0 c).wCount (takeC (tick0 c).count x)).self = (s : Int) := by rw [h0]; exact h.self
    have hown : ownN ((tick0 c).wCount (takeC (tick0 c).count x)) = i + 1 := by
      show takeC (tick0 c).count x (tick0 c).self.toNat = i + 1
      rw [hc, show (tick0 c).self = (s : Int) from hself, Int.toNat_natCast]
      exact hcs)
  · show gotF (getK _ (ownN _) (takeL L x)) = f
    rw [hself, hown, hg1]; exact x3
  · exact hown
  · intro hpos
    show (if 0 < ownN _ then gotF (getK _ (ownN _ - 1) (takeL L x)) else noFr) = fp
    rw [hself, hown, if_pos (by omega), Nat.add_sub_cancel, hg0 hpos]
    exact h.last hpos
  · show ((tick0 c).wCount (takeC (tick0 c).count x)).self.toNat = s
    rw [hself, Int.toNat_natCast]
  · show (tick0 c).own = n
    rw [h0]; exact h.own

end Go.Proofs.Ythgmecgknhphmaa
