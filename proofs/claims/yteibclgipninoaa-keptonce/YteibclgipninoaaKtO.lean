/-
  Frames that are taken from nothing on: what is kept of them, and how many there are.
  No condition.
-/
import Derived.Test.YteibclgipninoaaKtL
namespace Go.Proofs.Yteibclgipninoaa
set_option maxRecDepth 10000
open Go.RowKit Go.Sort

/- No two of one daemon and round. -/
def uniq : List Kt → Prop
  | [] => True
  | a :: l => (∀ b ∈ l, ¬ (a.fr = b.fr ∧ a.rd = b.rd)) ∧ uniq l
theorem uniq_filter (p : Kt → Bool) : ∀ l : List Kt, uniq l → uniq (l.filter p)
  | [], _ => trivial
  | a :: l, h => by
    rw [List.filter_cons]
    split
    · exact ⟨fun b hb => h.1 b (List.mem_filter.1 hb).1, uniq_filter p l h.2⟩
    · exact uniq_filter p l h.2
theorem uniq_snoc (x : Kt) : ∀ l : List Kt, uniq l → (∀ b ∈ l, ¬ (b.fr = x.fr ∧ b.rd = x.rd)) → uniq (l ++ [x])
  | [], _, _ => ⟨fun b hb => by simp at hb, trivial⟩
  | a :: l, h, hx => by
    refine ⟨fun b hb => ?_, uniq_snoc x l h.2 (fun b hb => hx b (by simp [hb]))⟩
    rcases List.mem_append.1 hb with hb | hb
    · exact h.1 b hb
    · simp at hb
      rw [hb]
      exact hx a (by simp)

structure InvK (c : Nat → Nat) (K : List Kt) (j : Nat) : Prop where
  mem : ∀ x ∈ K, ∃ d : Nat, x.fr = (d : Int) ∧ d < 8 ∧ 1 ≤ x.rd ∧ x.rd ≤ c d ∧ c d < x.rd + 3
  all : ∀ d r : Nat, d < 8 → 1 ≤ r → r ≤ c d → c d < r + 3 → ∃ x ∈ K, x.fr = (d : Int) ∧ x.rd = r
  un : uniq K
  le : ∀ d, c d ≤ j
  len : K.length ≤ j
theorem InvK.first : InvK noMb [] 0 :=
  ⟨fun x h => by simp at h, fun d r _ h1 h2 _ => by simp [noMb] at h2; omega, trivial, fun d => Nat.le_refl _, Nat.le_refl _⟩
theorem InvK.more {c : Nat → Nat} {K : List Kt} {j : Nat} (h : InvK c K j) : InvK c K (j + 1) :=
  ⟨h.mem, h.all, h.un, fun d => Nat.le_succ_of_le (h.le d), Nat.le_succ_of_le h.len⟩
theorem InvK.take {c m : Nat → Nat} {K : List Kt} {j : Nat} (h : InvK c K j) (x : Kt) (ht : takesB c m x = true) : InvK (takeC c x) (takeL K x) (j + 1) := by
  obtain ⟨d, hd, hd8, hm, hr⟩ := (takesB_iff c m x).1 ht
  have hdd : x.fr.toNat = d := by rw [hd]; rfl
  have e0 : takeC c x d = c d + 1 := by simp [takeC, put8, hdd, hr]
  have e1 : ∀ e, e ≠ d → takeC c x e = c e := fun e he => by simp [takeC, put8, hdd, he]
  have hyn : ∀ y, y ∈ young x K ↔ y ∈ K ∧ oldB x y = false := fun y => by simp [young]
  refine ⟨?_, ?_, ?_, ?_, ?_⟩
  · intro y hy
    rcases List.mem_append.1 hy with hy | hy
    · obtain ⟨hyK, ho⟩ := (hyn y).1 hy
      obtain ⟨e, he, he8, h1, h2, h3⟩ := h.mem y hyK
      refine ⟨e, he, he8, h1, ?_⟩
      by_cases hed : e = d
      · subst hed
        rw [e0]
        have : ¬ (y.fr = x.fr ∧ y.rd + 3 ≤ x.rd) := by simpa [oldB] using ho
        have h4 : y.fr = x.fr := by rw [he, hd]
        omega
      · rw [e1 e hed]
        exact ⟨h2, h3⟩
    · simp at hy
      subst hy
      exact ⟨d, hd, hd8, by omega, by rw [e0]; omega, by rw [e0]; omega⟩
  · intro e r he8 h1 h2 h3
    by_cases hed : e = d
    · subst hed
      rw [e0] at h2 h3
      by_cases hrr : r = c e + 1
      · exact ⟨x, by simp [takeL], hd, by omega⟩
      · obtain ⟨y, hy, hy1, hy2⟩ := h.all e r he8 h1 (by omega) (by omega)
        refine ⟨y, ?_, hy1, hy2⟩
        refine List.mem_append.2 (.inl ((hyn y).2 ⟨hy, ?_⟩))
        simp [oldB]
        omega
    · rw [e1 e hed] at h2 h3
      obtain ⟨y, hy, hy1, hy2⟩ := h.all e r he8 h1 h2 h3
      refine ⟨y, ?_, hy1, hy2⟩
      refine List.mem_append.2 (.inl ((hyn y).2 ⟨hy, ?_⟩))
      simp [oldB]
      omega
  · refine uniq_snoc x _ (uniq_filter _ K h.un) ?_
    intro b hb hbx
    obtain ⟨hbK, _⟩ := (hyn b).1 hb
    obtain ⟨e, he, _, _, h2, _⟩ := h.mem b hbK
    have : e = d := by omega
    subst this
    omega
  · intro e
    by_cases hed : e = d
    · subst hed; rw [e0]; have := h.le e; omega
    · rw [e1 e hed]; exact Nat.le_succ_of_le (h.le e)
  · exact Nat.le_trans (takeL_len x K) (by have := h.len; omega)
theorem takeC_ne {c m : Nat → Nat} (x : Kt) (ht : takesB c m x = true) : mbSame (takeC c x) c = false := by
  obtain ⟨d, hd, hd8, hm, hr⟩ := (takesB_iff c m x).1 ht
  have hdd : x.fr.toNat = d := by rw [hd]; rfl
  cases hs : mbSame (takeC c x) c with
  | false => rfl
  | true =>
    have := (mbSame_iff _ _).1 hs d hd8
    simp [takeC, put8, hdd] at this
    omega

/- Whether one is there. -/
theorem InvK.has {c : Nat → Nat} {K : List Kt} {j : Nat} (h : InvK c K j) (d r : Nat) (hd : d < 8) (h1 : 1 ≤ r) (h2 : r ≤ c d) : (getK (d : Int) r K).isSome = decide (c d < r + 3) := by
  rw [Bool.eq_iff_iff, decide_eq_true_iff, getK, List.find?_isSome]
  constructor
  · rintro ⟨x, hx, hb⟩
    have hb' : x.fr = (d : Int) ∧ x.rd = r := by simpa [isB] using hb
    obtain ⟨e, he, _, _, _, h3⟩ := h.mem x hx
    have : e = d := by omega
    subst this
    omega
  · intro h3
    obtain ⟨x, hx, hx1, hx2⟩ := h.all d r hd h1 h2 h3
    exact ⟨x, hx, by simp [isB, hx1, hx2]⟩

/- How many stand ahead of a daemon and round. -/
def ahd (d r : Nat) (x : Kt) : Bool := decide (x.fr < (d : Int) ∨ x.fr = (d : Int) ∧ x.rd < r)
def cnt (K : List Kt) (d r : Nat) : Nat := (K.filter (ahd d r)).length
theorem cnt_le (K : List Kt) (d r : Nat) : cnt K d r ≤ K.length := List.length_filter_le _ _
theorem filter_sum (d r : Nat) : ∀ K : List Kt, (K.filter (ahd d (r + 1))).length = (K.filter (ahd d r)).length + (K.filter (isB (d : Int) r)).length
  | [] => rfl
  | a :: l => by
    have ih := filter_sum d r l
    rw [List.filter_cons, List.filter_cons, List.filter_cons]
    by_cases h1 : ahd d r a = true
    · have h2 : ahd d (r + 1) a = true := by simp [ahd] at h1 ⊢; omega
      have h3 : isB (d : Int) r a = false := by simp [ahd] at h1; simp [isB]; omega
      simp [h1, h2, h3]
      omega
    · by_cases h3 : isB (d : Int) r a = true
      · have h2 : ahd d (r + 1) a = true := by simp [isB] at h3; simp [ahd]; omega
        simp [h1, h2, h3]
        omega
      · have h2 : ahd d (r + 1) a = false := by simp [ahd] at h1 ⊢; simp [isB] at h3; omega
        simp [h1, h2, h3]
        exact ih
theorem filter_one (d r : Nat) : ∀ K : List Kt, uniq K → (K.filter (isB (d : Int) r)).length = if (getK (d : Int) r K).isSome = true then 1 else 0
  | [], _ => rfl
  | a :: l, h => by
    by_cases h1 : isB (d : Int) r a = true
    · have h2 : l.filter (isB (d : Int) r) = [] := by
        rw [List.filter_eq_nil_iff]
        intro b hb hbb
        have e1 : a.fr = (d : Int) ∧ a.rd = r := by simpa [isB] using h1
        have e2 : b.fr = (d : Int) ∧ b.rd = r := by simpa [isB] using hbb
        exact h.1 b hb ⟨by rw [e1.1, e2.1], by rw [e1.2, e2.2]⟩
      rw [List.filter_cons, if_pos h1, h2, getK, List.find?_cons, h1]
      rfl
    · have h1' : isB (d : Int) r a = false := by simpa using h1
      have ih := filter_one d r l h.2
      rw [List.filter_cons, if_neg h1, ih, getK, getK, List.find?_cons, h1']
theorem cnt_step {c : Nat → Nat} {K : List Kt} {j : Nat} (h : InvK c K j) (d r : Nat) (hd : d < 8) (h1 : 1 ≤ r) (h2 : r ≤ c d) : cnt K d (r + 1) = cnt K d r + (if c d < r + 3 then 1 else 0) := by
  unfold cnt
  rw [filter_sum, filter_one d r K h.un, h.has d r hd h1 h2]
  simp
theorem filter_same (p q : Kt → Bool) : ∀ K : List Kt, (∀ x ∈ K, p x = q x) → K.filter p = K.filter q
  | [], _ => rfl
  | a :: l, h => by rw [List.filter_cons, List.filter_cons, h a (by simp), filter_same p q l (fun x hx => h x (by simp [hx]))]
theorem cnt_next {c : Nat → Nat} {K : List Kt} {j : Nat} (h : InvK c K j) (d : Nat) : cnt K d (c d + 1) = cnt K (d + 1) 1 := by
  unfold cnt
  rw [filter_same _ (ahd (d + 1) 1) K]
  intro x hx
  obtain ⟨e, he, _, h1, h2, _⟩ := h.mem x hx
  unfold ahd
  rw [decide_eq_decide, he]
  constructor
  · rintro (h | ⟨h, _⟩) <;> left <;> omega
  · rintro (h | ⟨_, h⟩)
    · by_cases hed : e = d
      · subst hed
        exact .inr ⟨rfl, by omega⟩
      · left; omega
    · omega
theorem cnt_first {c : Nat → Nat} {K : List Kt} {j : Nat} (h : InvK c K j) : cnt K 0 1 = 0 := by
  unfold cnt
  rw [List.length_eq_zero_iff, List.filter_eq_nil_iff]
  intro x hx
  obtain ⟨e, he, _, h1, h2, _⟩ := h.mem x hx
  simp [ahd, he]
  omega
theorem cnt_last {c : Nat → Nat} {K : List Kt} {j : Nat} (h : InvK c K j) : cnt K 8 1 = K.length := by
  unfold cnt
  rw [List.filter_eq_self.2]
  intro x hx
  obtain ⟨e, he, he8, h1, h2, _⟩ := h.mem x hx
  simp [ahd, he]
  omega

end Go.Proofs.Yteibclgipninoaa
