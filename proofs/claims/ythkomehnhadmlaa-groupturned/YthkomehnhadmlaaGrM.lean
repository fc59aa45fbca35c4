/-
  Tables of members: their order, what Apply, View, Keep and May answer, as plain functions; what follows.
  No condition.
-/
import Derived.Test.YthkomehnhadmlaaGr
namespace Go.Proofs.Ythkomehnhadmlaa
set_option maxRecDepth 10000
open Go.RowKit Go.Sort

def lsM (a b : Mr) : Bool := if a.g = b.g then (if a.d = b.d then decide (a.s < b.s) else decide (a.d < b.d)) else decide (a.g < b.g)
def LsM (a b : Mr) : Prop := a.g < b.g ∨ a.g = b.g ∧ (a.d < b.d ∨ a.d = b.d ∧ a.s < b.s)
theorem lsM_iff (a b : Mr) : lsM a b = true ↔ LsM a b := by
  unfold lsM LsM
  by_cases h1 : a.g = b.g
  · rw [if_pos h1]
    by_cases h2 : a.d = b.d
    · rw [if_pos h2, decide_eq_true_eq]; omega
    · rw [if_neg h2, decide_eq_true_eq]; omega
  · rw [if_neg h1, decide_eq_true_eq]; omega
theorem LsM.irr (a : Mr) : ¬ LsM a a := by unfold LsM; omega
theorem LsM.asym (a b : Mr) (h : LsM a b) : ¬ LsM b a := by unfold LsM at *; omega
theorem LsM.trans {a b c : Mr} (h : LsM a b) (k : LsM b c) : LsM a c := by unfold LsM at *; omega
theorem LsM.total (a b : Mr) : LsM a b ∨ a = b ∨ LsM b a := by
  obtain ⟨g, d, s⟩ := a
  obtain ⟨g', d', s'⟩ := b
  unfold LsM
  simp only [Mr.mk.injEq]
  omega
def rgtM (m : Mr) : Bool := decide (0 ≤ m.g ∧ m.g ≤ 7 ∧ 0 ≤ m.d ∧ m.d ≤ 7 ∧ m.s < 65536)
/- At its place: ahead of the first one that is not ahead of it. -/
def insM (m : Mr) : List Mr → List Mr
  | [] => [m]
  | x :: L => if lsM x m = true then x :: insM m L else m :: x :: L
def hasM3 (m : Mr) (L : List Mr) : Bool := L.any fun x => Mr.same x m
def outM (m : Mr) (L : List Mr) : List Mr := L.filter fun x => !Mr.same x m
/- k: the entry's kind (2: join, 3: leave). -/
def didM (k : Int) (m : Mr) (L : List Mr) : Bool := rgtM m && ((decide (k = 2) && !hasM3 m L) || (decide (k = 3) && hasM3 m L))
def appM (k : Int) (m : Mr) (L : List Mr) : List Mr := if didM k m L = true then (if k = 2 then insM m L else outM m L) else L
def viewM (g : Int) (L : List Mr) : List Mr := L.filter fun x => decide (x.g = g)
def keepM (m : Nat → Nat) (L : List Mr) : List Mr := L.filter fun x => decide (0 ≤ x.d ∧ x.d ≤ 7 ∧ m x.d.toNat ≠ 0)
def MayM (L : List Mr) : Prop := (∀ x ∈ L, rgtM x = true) ∧ L.Pairwise LsM

theorem hasM3_iff (m : Mr) (L : List Mr) : hasM3 m L = true ↔ m ∈ L := by
  unfold hasM3
  rw [List.any_eq_true]
  constructor
  · rintro ⟨x, hx, h⟩
    rw [← (Mr.same_iff x m).1 h]
    exact hx
  · intro h
    exact ⟨m, h, Mr.same_self m⟩
theorem mem_ins (m : Mr) : ∀ (L : List Mr) (x : Mr), x ∈ insM m L ↔ x = m ∨ x ∈ L
  | [], x => by simp [insM]
  | y :: L, x => by
    unfold insM
    split
    · rw [List.mem_cons, mem_ins m L x, List.mem_cons]
      constructor
      · rintro (h | h | h)
        · exact .inr (.inl h)
        · exact .inl h
        · exact .inr (.inr h)
      · rintro (h | h | h)
        · exact .inr (.inl h)
        · exact .inl h
        · exact .inr (.inr h)
    · rw [List.mem_cons]
theorem mem_out (m : Mr) (L : List Mr) (x : Mr) : x ∈ outM m L ↔ x ∈ L ∧ x ≠ m := by
  unfold outM
  rw [List.mem_filter]
  refine and_congr_right fun _ => ?_
  rw [Bool.not_eq_true', Bool.eq_false_iff]
  exact not_congr (Mr.same_iff x m)
theorem ins_sorted (m : Mr) : ∀ (L : List Mr), L.Pairwise LsM → m ∉ L → (insM m L).Pairwise LsM
  | [], _, _ => by simp [insM]
  | y :: L, h, hm => by
    rw [List.pairwise_cons] at h
    unfold insM
    split
    · rename_i hy
      rw [List.pairwise_cons]
      refine ⟨fun z hz => ?_, ins_sorted m L h.2 (fun e => hm (List.mem_cons_of_mem _ e))⟩
      rcases (mem_ins m L z).1 hz with rfl | hz
      · exact (lsM_iff _ _).1 hy
      · exact h.1 z hz
    · rename_i hy
      have hmy : LsM m y := by
        rcases LsM.total m y with e | e | e
        · exact e
        · exact absurd (by rw [e]; simp) hm
        · exact absurd ((lsM_iff _ _).2 e) hy
      rw [List.pairwise_cons, List.pairwise_cons]
      refine ⟨fun z hz => ?_, h⟩
      rcases List.mem_cons.1 hz with rfl | hz
      · exact hmy
      · exact hmy.trans (h.1 z hz)
theorem may_ins {m : Mr} {L : List Mr} (h : MayM L) (hm : rgtM m = true) (hn : m ∉ L) : MayM (insM m L) :=
  ⟨fun x hx => by rcases (mem_ins m L x).1 hx with rfl | hx; exact hm; exact h.1 x hx, ins_sorted m L h.2 hn⟩
theorem may_subM {L M : List Mr} (h : MayM L) (hs : M.Sublist L) : MayM M := ⟨fun x hx => h.1 x (hs.subset hx), h.2.sublist hs⟩
theorem may_app {k : Int} {m : Mr} {L : List Mr} (h : MayM L) : MayM (appM k m L) := by
  unfold appM
  split
  · rename_i hd
    unfold didM at hd
    rw [Bool.and_eq_true, Bool.or_eq_true, Bool.and_eq_true, Bool.and_eq_true, decide_eq_true_eq, decide_eq_true_eq] at hd
    split
    · rename_i hk
      have hn : hasM3 m L = false := by
        rcases hd.2 with e | e
        · simpa using e.2
        · omega
      exact may_ins h hd.1 (fun e => by rw [(hasM3_iff m L).2 e] at hn; cases hn)
    · exact may_subM h List.filter_sublist
  · exact h
/- Who is in it behind an entry. -/
theorem mem_app (k : Int) (m : Mr) (L : List Mr) (x : Mr) : x ∈ appM k m L ↔ (x ∈ L ∧ ¬ (x = m ∧ rgtM m = true ∧ k = 3)) ∨ (x = m ∧ rgtM m = true ∧ k = 2) := by
  unfold appM
  cases hr : rgtM m with
  | false =>
    have : didM k m L = false := by unfold didM; rw [hr]; rfl
    rw [this]
    simp
  | true =>
    by_cases hk2 : k = 2
    · subst hk2
      cases hh : hasM3 m L with
      | true =>
        have : didM 2 m L = false := by unfold didM; rw [hr, hh]; rfl
        rw [this]
        have hm := (hasM3_iff m L).1 hh
        constructor
        · intro h
          exact .inl ⟨h, by omega⟩
        · rintro (h | h)
          · exact h.1
          · rw [h.1]; exact hm
      | false =>
        have : didM 2 m L = true := by unfold didM; rw [hr, hh]; rfl
        rw [this, if_pos rfl, if_pos rfl, mem_ins]
        constructor
        · rintro (h | h)
          · exact .inr ⟨h, rfl, rfl⟩
          · exact .inl ⟨h, by omega⟩
        · rintro (h | h)
          · exact .inr h.1
          · exact .inl h.1
    · by_cases hk3 : k = 3
      · subst hk3
        cases hh : hasM3 m L with
        | true =>
          have : didM 3 m L = true := by unfold didM; rw [hr, hh]; rfl
          rw [this, if_pos rfl, if_neg (by decide), mem_out]
          constructor
          · rintro ⟨h1, h2⟩
            exact .inl ⟨h1, fun h => h2 h.1⟩
          · rintro (h | h)
            · exact ⟨h.1, fun e => h.2 ⟨e, rfl, rfl⟩⟩
            · omega
        | false =>
          have : didM 3 m L = false := by unfold didM; rw [hr, hh]; rfl
          rw [this]
          have hm : m ∉ L := fun e => by rw [(hasM3_iff m L).2 e] at hh; cases hh
          constructor
          · intro h
            exact .inl ⟨h, fun e => hm (by rw [← e.1]; exact h)⟩
          · rintro (h | h)
            · exact h.1
            · omega
      · have : didM k m L = false := by unfold didM; rw [hr, decide_eq_false hk2, decide_eq_false hk3]; rfl
        rw [this]
        constructor
        · intro h
          exact .inl ⟨h, by omega⟩
        · rintro (h | h)
          · exact h.1
          · omega
theorem same_tab {L M : List Mr} (hL : MayM L) (hM : MayM M) (h : ∀ x, x ∈ L ↔ x ∈ M) : L = M := sorted_eq LsM LsM.irr LsM.asym L M hL.2 hM.2 h
/- Entries of unlike members may come in either order. -/
theorem app_turned {k j : Int} {m n : Mr} {L : List Mr} (h : MayM L) (hne : m ≠ n) : appM j n (appM k m L) = appM k m (appM j n L) := by
  refine same_tab (may_app (may_app h)) (may_app (may_app h)) fun x => ?_
  rw [mem_app, mem_app, mem_app, mem_app]
  by_cases h1 : x = m
  · have h2 : x ≠ n := by rw [h1]; exact hne
    simp [h1, hne]
  · simp [h1]
/- What is done to one group changes no other one's view. -/
theorem view_app {k g : Int} {m : Mr} {L : List Mr} (h : MayM L) (hg : g ≠ m.g) : viewM g (appM k m L) = viewM g L := by
  refine same_tab (may_subM (may_app h) List.filter_sublist) (may_subM h List.filter_sublist) fun x => ?_
  unfold viewM
  rw [List.mem_filter, List.mem_filter, mem_app, decide_eq_true_eq]
  constructor
  · rintro ⟨h1 | h1, h2⟩
    · exact ⟨h1.1, h2⟩
    · exact absurd (h2.symm.trans (by rw [h1.1])) hg
  · rintro ⟨h1, h2⟩
    exact ⟨.inl ⟨h1, fun e => hg (h2.symm.trans (by rw [e.1]))⟩, h2⟩
theorem ins_len (m : Mr) : ∀ L : List Mr, (insM m L).length = L.length + 1
  | [] => rfl
  | x :: L => by
    unfold insM
    split
    · simp [ins_len m L]
    · simp
theorem out_len {m : Mr} : ∀ {L : List Mr}, L.Pairwise LsM → m ∈ L → (outM m L).length + 1 = L.length
  | [], _, h => by simp at h
  | x :: L, hp, h => by
    rw [List.pairwise_cons] at hp
    by_cases hx : x = m
    · subst hx
      have e : outM x (x :: L) = L := by
        unfold outM
        rw [List.filter_cons, Mr.same_self]
        simp only [Bool.not_true, Bool.false_eq_true, if_false]
        rw [List.filter_eq_self]
        intro y hy
        have hne : y ≠ x := fun e => LsM.irr x (by have := hp.1 y hy; rw [e] at this; exact this)
        rw [Mr.same_no hne]
        rfl
      rw [e]
      rfl
    · have hm : m ∈ L := by
        rcases List.mem_cons.1 h with e | e
        · exact absurd e.symm hx
        · exact e
      have ih := out_len hp.2 hm
      have e : outM m (x :: L) = x :: outM m L := by
        unfold outM
        rw [List.filter_cons, Mr.same_no hx]
        rfl
      rw [e]
      simp
      omega

end Go.Proofs.Ythkomehnhadmlaa
