/-
  What follows of counts, members and places: services, one under another; counts that rise; places ahead of one's position; who may send.
  No condition.
-/
import Derived.Test.YtmnpbjaofemelaaRdD
namespace Go.Proofs.Ytmnpbjaofemelaa
set_option maxRecDepth 10000
open Go.RowKit Go.Sort

theorem kind0 (c m : Nat → Nat) (p : Pl) : kindB c m p 0 = true := rfl
theorem kind1 (c m : Nat → Nat) (p : Pl) : kindB c m p 1 = decide (p.r - 1 ≤ leastC c m) := rfl
theorem kind2 (c m : Nat → Nat) (p : Pl) : kindB c m p 2 = (decide (p.r - 1 ≤ leastC c m) && lowB c m p) := rfl
theorem kind3 (c m : Nat → Nat) (p : Pl) : kindB c m p 3 = decide (p.r < leastC c m) := rfl
theorem lowB_iff (c m : Nat → Nat) (p : Pl) : lowB c m p = true ↔ ∀ d ∈ lst m, (d : Int) < p.f → p.r ≤ c d := by
  rw [lowB, List.all_eq_true]
  constructor
  · intro h d hd hf
    have := h d hd
    simp [hf] at this
    exact this
  · intro h d hd
    have := h d hd
    simp
    by_cases e : (d : Int) < p.f
    · right; exact this e
    · left; omega

theorem svc32 (c m : Nat → Nat) (p : Pl) (h : svcB c m p 3 = true) : svcB c m p 2 = true := by
  unfold svcB at h ⊢
  rw [Bool.and_eq_true, kind3, decide_eq_true_eq] at h
  rw [Bool.and_eq_true, kind2, Bool.and_eq_true, decide_eq_true_eq, lowB_iff]
  refine ⟨h.1, by omega, fun d hd _ => ?_⟩
  have := leastC_le c m d hd
  omega
theorem svc21 (c m : Nat → Nat) (p : Pl) (h : svcB c m p 2 = true) : svcB c m p 1 = true := by
  unfold svcB at h ⊢
  rw [Bool.and_eq_true, kind2, Bool.and_eq_true] at h
  rw [Bool.and_eq_true, kind1]
  exact ⟨h.1, h.2.1⟩
theorem svc10 (c m : Nat → Nat) (p : Pl) (h : svcB c m p 1 = true) : svcB c m p 0 = true := by
  unfold svcB at h ⊢
  rw [Bool.and_eq_true] at h
  rw [Bool.and_eq_true, kind0]
  exact ⟨h.1, rfl⟩
theorem svc_under (c m : Nat → Nat) (p : Pl) : svcB c m p (-1) = false := by
  unfold svcB kindB
  simp
theorem svc_over (c m : Nat → Nat) (p : Pl) : svcB c m p 4 = false := by
  unfold svcB kindB
  simp

/- Counts that rise. -/
theorem leastC_rise (c d m : Nat → Nat) (h : ∀ i ∈ lst m, c i ≤ d i) (k : Nat) (hk : k ∈ lst m) : leastC c m ≤ leastC d m := by
  rw [leastC_all d m k _ hk]
  intro e he
  exact Nat.le_trans (leastC_le c m e he) (h e he)
theorem svc_rise (c d m : Nat → Nat) (h : ∀ i ∈ lst m, c i ≤ d i) (p : Pl) (s : Int) (hs : svcB c m p s = true) : svcB d m p s = true := by
  unfold svcB inB at hs ⊢
  rw [Bool.and_eq_true, Bool.and_eq_true, decide_eq_true_eq] at hs
  obtain ⟨⟨h1, h2, h3⟩, h4⟩ := hs
  obtain ⟨k, hf, hk⟩ := (isM_iff m p.f).1 h1
  have hl := leastC_rise c d m h k hk
  have hkd := h k hk
  rw [hf, Int.toNat_natCast] at h3
  rw [Bool.and_eq_true, Bool.and_eq_true, decide_eq_true_eq]
  refine ⟨⟨h1, h2, by rw [hf, Int.toNat_natCast]; omega⟩, ?_⟩
  unfold kindB at h4 ⊢
  split
  · rfl
  · rename_i s0
    rw [if_neg s0] at h4
    split
    · rename_i s1
      rw [if_pos s1, decide_eq_true_eq] at h4
      rw [decide_eq_true_eq]
      omega
    · rename_i s1
      rw [if_neg s1] at h4
      split
      · rename_i s2
        rw [if_pos s2, Bool.and_eq_true, decide_eq_true_eq, lowB_iff] at h4
        rw [Bool.and_eq_true, decide_eq_true_eq, lowB_iff]
        exact ⟨by omega, fun e he hf => Nat.le_trans (h4.2 e he hf) (h e he)⟩
      · rename_i s2
        rw [if_neg s2] at h4
        split
        · rename_i s3
          rw [if_pos s3, decide_eq_true_eq] at h4
          rw [decide_eq_true_eq]
          omega
        · rename_i s3
          rw [if_neg s3] at h4
          cases h4

/- One's position. -/
theorem lst_sorted (m : Nat → Nat) : (lst m).Pairwise (· < ·) := List.Pairwise.filter _ List.pairwise_lt_range
theorem find_least (L : List Nat) (hL : L.Pairwise (· < ·)) (P : Nat → Bool) (d : Nat) (h : L.find? P = some d) : ∀ e ∈ L, P e = true → d ≤ e := by
  induction L with
  | nil => cases h
  | cons x l ih =>
    intro e he hp
    rw [List.pairwise_cons] at hL
    rw [List.find?_cons] at h
    cases hx : P x with
    | true =>
      rw [hx] at h
      injection h with h
      subst h
      rcases List.mem_cons.1 he with rfl | he
      · exact Nat.le_refl _
      · exact Nat.le_of_lt (hL.1 e he)
    | false =>
      rw [hx] at h
      rcases List.mem_cons.1 he with rfl | he
      · rw [hx] at hp; cases hp
      · exact ih hL.2 h e he hp
theorem pos_spec (c m : Nat → Nat) (k : Nat) (hk : k ∈ lst m) : ∃ e ∈ lst m, posP c m = ⟨nxt (leastC c m), (e : Int), 0⟩ ∧ c e = leastC c m ∧ ∀ i ∈ lst m, c i = leastC c m → e ≤ i := by
  obtain ⟨x, hx, hc⟩ := leastC_is c m k hk
  cases hf : fst c (leastC c m) (lst m) with
  | none =>
    have := List.find?_eq_none.1 hf x hx
    simp at this
    exact absurd hc this
  | some e =>
    refine ⟨e, List.mem_of_find?_eq_some hf, posP_some c m e hf, by simpa using List.find?_some hf, fun i hi h => ?_⟩
    exact find_least (lst m) (lst_sorted m) _ e hf i hi (by simpa using h)
theorem pos_empty (c m : Nat → Nat) (h : lst m = []) : posP c m = Pl.zero := by
  unfold posP
  rw [h]
  rfl
theorem pos_rise (c d m : Nat → Nat) (h : ∀ i ∈ lst m, c i ≤ d i) (hd : ∀ i ∈ lst m, d i < 4294967295) : befB (posP d m) (posP c m) = false := by
  cases hL : lst m with
  | nil => rw [pos_empty c m hL, pos_empty d m hL]; rfl
  | cons k l =>
    have hk : k ∈ lst m := by rw [hL]; simp
    obtain ⟨e, he, h1, h2, h3⟩ := pos_spec c m k hk
    obtain ⟨e', he', h1', h2', h3'⟩ := pos_spec d m k hk
    have hl := leastC_rise c d m h k hk
    have b := hd e' he'
    rw [h1, h1', nxt_lt (by omega), nxt_lt (by omega), befB, decide_eq_false_iff_not]
    simp only
    by_cases hq : leastC c m = leastC d m
    · have hce : c e' = leastC c m := by
        have a1 := h e' he'
        have a2 := leastC_le c m e' he'
        omega
      have := h3 e' he' hce
      omega
    · omega

/- What may be delivered as agreed are the places ahead of one's position. -/
theorem agreed_pos (c m : Nat → Nat) (hc : ∀ i, c i < 4294967296) (p : Pl) (k : Nat) (hf : p.f = (k : Int)) (hk : k ∈ lst m) (h0 : p.r ≠ 0) (hr : p.r < 4294967295) : svcB c m p 2 = befB ⟨p.r, p.f, 0⟩ (posP c m) := by
  obtain ⟨e, he, h1, h2, h3⟩ := pos_spec c m k hk
  have hb := hc e
  have hlk := leastC_le c m k hk
  rw [h1, Bool.eq_iff_iff]
  unfold svcB inB befB
  rw [Bool.and_eq_true, Bool.and_eq_true, decide_eq_true_eq, decide_eq_true_eq, kind2, Bool.and_eq_true, decide_eq_true_eq, lowB_iff, hf, Int.toNat_natCast, isM_nat]
  simp only
  unfold nxt
  constructor
  · rintro ⟨⟨_, _, h4⟩, h5, h6⟩
    by_cases hq : p.r ≤ leastC c m
    · left; split <;> omega
    · have hn : leastC c m < 4294967295 := by omega
      rw [if_pos hn]
      right
      refine ⟨by omega, .inl ?_⟩
      by_cases hek : e < k
      · have := h6 e he (by omega)
        omega
      · by_cases hke : k = e
        · subst hke
          omega
        · omega
  · intro h
    by_cases hq : p.r ≤ leastC c m
    · refine ⟨⟨hk, h0, by omega⟩, by omega, fun d hd _ => ?_⟩
      have := leastC_le c m d hd
      omega
    · have hn : leastC c m < 4294967295 := by
        by_cases hn : leastC c m < 4294967295
        · exact hn
        · rw [if_neg hn] at h; omega
      rw [if_pos hn] at h
      obtain ⟨hr', hke⟩ : p.r = leastC c m + 1 ∧ k < e := by omega
      have key : ∀ d ∈ lst m, d < e → leastC c m + 1 ≤ c d := fun d hd hde => by
        have a1 := leastC_le c m d hd
        by_cases a2 : c d = leastC c m
        · have := h3 d hd a2
          omega
        · omega
      refine ⟨⟨hk, h0, ?_⟩, by omega, fun d hd hdf => ?_⟩
      · have := key k hk hke
        omega
      · have := key d hd (by omega)
        omega
theorem three_ways (f a b : Pl) : (befB a b && (!befB f a || befB f b) || befB b a && (!befB f b || befB f a) || Pl.same a b && (befB f a == befB f b)) = true := by
  rcases Decidable.em (befB a b = true) with h | h
  · have : (!befB f a || befB f b) = true := by
      cases hf : befB f a with
      | false => rfl
      | true =>
        unfold befB at h hf ⊢
        rw [decide_eq_true_eq] at h hf
        simp
        omega
    simp [h, this]
  · rcases Decidable.em (befB b a = true) with h2 | h2
    · have : (!befB f b || befB f a) = true := by
        cases hf : befB f b with
        | false => rfl
        | true =>
          unfold befB at h2 hf ⊢
          rw [decide_eq_true_eq] at h2 hf
          simp
          omega
      simp [h2, this]
    · have e : a = b := by
        unfold befB at h h2
        rw [decide_eq_true_eq] at h h2
        obtain ⟨r, f, s⟩ := a
        obtain ⟨r', f', s'⟩ := b
        simp only at h h2
        obtain rfl : r = r' := by omega
        obtain rfl : f = f' := by omega
        obtain rfl : s = s' := by omega
        rfl
      subst e
      rw [Pl.same_self]
      simp

/- Who may send. -/
theorem may_none (c m : Nat → Nat) (i : Nat) (h : m i = 0) : mayB c m (i : Int) = false := by
  unfold mayB isM
  rw [Int.toNat_natCast, h]
  simp
theorem may_some (c m : Nat → Nat) (i : Nat) (hi : i < 8) (h : m i ≠ 0) : mayB c m (i : Int) = decide (c i = leastC c m) := by
  unfold mayB
  rw [(isM_nat m i).2 ((mem_lst m i).2 ⟨hi, h⟩), Bool.true_and, Int.toNat_natCast]
def anyTo (c m : Nat → Nat) (j : Nat) : Bool := (List.range j).any fun i => mayB c m (i : Int)
def allTo (c m : Nat → Nat) (j : Nat) : Bool := (List.range j).all fun i => decide (m i = 0) || decide (c i = leastC c m)
theorem anyTo_next (c m : Nat → Nat) (j : Nat) : anyTo c m (j + 1) = (anyTo c m j || mayB c m (j : Int)) := by simp [anyTo, List.range_succ]
theorem allTo_next (c m : Nat → Nat) (j : Nat) : allTo c m (j + 1) = (allTo c m j && (decide (m j = 0) || decide (c j = leastC c m))) := by simp [allTo, List.range_succ]
theorem any_ok (c m : Nat → Nat) : anyTo c m 8 = (!(lst m).isEmpty) := by
  cases hL : lst m with
  | nil =>
    rw [anyTo, List.any_eq_false.2 (fun i hi => ?_)]
    · rfl
    · have hi8 := List.mem_range.1 hi
      by_cases hm : m i = 0
      · rw [may_none c m i hm]; decide
      · have := (mem_lst m i).2 ⟨hi8, hm⟩
        rw [hL] at this
        cases this
  | cons k l =>
    obtain ⟨e, he, h⟩ := leastC_is c m k (by rw [hL]; simp)
    obtain ⟨he8, hm⟩ := (mem_lst m e).1 he
    rw [anyTo, List.any_eq_true.2 ⟨e, List.mem_range.2 he8, by rw [may_some c m e he8 hm, decide_eq_true_eq]; exact h⟩]
    rfl
theorem all_may (c m : Nat → Nat) (h : allTo c m 8 = true) (i : Nat) (hi : i < 8) (hm : m i ≠ 0) : mayB c m (i : Int) = true := by
  rw [may_some c m i hi hm, decide_eq_true_eq]
  unfold allTo at h
  rw [List.all_eq_true] at h
  have := h i (List.mem_range.2 hi)
  simp [hm] at this
  exact this

end Go.Proofs.Ytmnpbjaofemelaa
