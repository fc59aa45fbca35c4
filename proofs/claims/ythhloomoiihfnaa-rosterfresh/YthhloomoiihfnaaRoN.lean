/-
  Rosters: a roster that may be stays one; what one session does changes no other one; from nothing on each Id is one more than the one ahead, and a session's numbers are 1, 2, 3 and so on.
  No condition.
-/
import Derived.Test.YthhloomoiihfnaaRoM
namespace Go.Proofs.Ythhloomoiihfnaa
set_option maxRecDepth 10000
open Go.RowKit Go.Sort

def MayR (l : Nat) (L : List Se) : Prop := L.length ≤ 4 ∧ l ≤ 65535 ∧ (L.map (·.i)).Pairwise (· < ·) ∧ ∀ x ∈ L, 1 ≤ x.i ∧ x.i ≤ l ∧ x.n ≤ 4294967295
theorem isI_iff (d : Nat) (x : Se) : isI d x = true ↔ x.i = d := by simp [isI]
theorem okSTo_zero (l : Nat) (L : List Se) : okSTo l L 0 = true := rfl
theorem okSTo_succ (l : Nat) (L : List Se) (j : Nat) (x : Se) (h : L[j]? = some x) : okSTo l L (j + 1) = (okSTo l L j && okS l L j x) := by
  unfold okSTo
  rw [List.range_succ, List.all_append]
  simp [h]
theorem okSTo_no (l : Nat) (L : List Se) (j : Nat) (x : Se) (h : L[j]? = some x) (hx : okS l L j x = false) : okSTo l L L.length = false := by
  have hj := (List.getElem?_eq_some_iff.1 h).1
  unfold okSTo
  rw [List.all_eq_false]
  exact ⟨j, by simpa using hj, by simp [h, hx]⟩
theorem okSTo_iff (l : Nat) (L : List Se) (j : Nat) : okSTo l L j = true ↔ ∀ i, i < j → ∀ x, L[i]? = some x → okS l L i x = true := by
  unfold okSTo
  rw [List.all_eq_true]
  constructor
  · intro h i hi x hx
    have := h i (by simpa using hi)
    simpa [hx] using this
  · intro h i hi
    cases e : L[i]? with
    | none => rfl
    | some x => exact h i (by simpa using hi) x e
theorem rise_all {L : List Se} (h : ∀ i x y, L[i]? = some x → L[i + 1]? = some y → x.i < y.i) : ∀ k i x y, L[i]? = some x → L[i + 1 + k]? = some y → x.i < y.i
  | 0, i, x, y, hx, hy => h i x y hx hy
  | k + 1, i, x, y, hx, hy => by
    have hj := (List.getElem?_eq_some_iff.1 hy).1
    obtain ⟨z, hz⟩ : ∃ z, L[i + 1 + k]? = some z := ⟨_, List.getElem?_eq_getElem (by omega)⟩
    have h1 := rise_all h k i x z hx hz
    have h2 := h (i + 1 + k) z y hz hy
    omega
theorem mayS_iff (l : Nat) (L : List Se) : mayS l L = true ↔ MayR l L := by
  unfold mayS MayR
  rw [Bool.and_eq_true, decide_eq_true_eq, okSTo_iff, and_assoc]
  refine and_congr_right fun _ => and_congr_right fun _ => ?_
  constructor
  · intro h
    have hh : ∀ i x, L[i]? = some x → 1 ≤ x.i ∧ x.i ≤ l ∧ x.n ≤ 4294967295 ∧ ahdB L i x = true := fun i x hx => by
      have := h i (List.getElem?_eq_some_iff.1 hx).1 x hx
      unfold okS at this
      simp at this
      exact ⟨this.1, this.2.1, this.2.2.1, this.2.2.2⟩
    have hr := rise_all (L := L) (fun i x y hx hy => by
      have := (hh (i + 1) y hy).2.2.2
      unfold ahdB at this
      rw [if_neg (by omega)] at this
      simp only [Nat.add_sub_cancel, hx, decide_eq_true_eq] at this
      exact this)
    refine ⟨?_, fun x hx => ?_⟩
    · rw [List.pairwise_iff_getElem]
      intro i j hi hj hij
      simp at hi hj
      have := hr (j - i - 1) i L[i] L[j] (List.getElem?_eq_getElem hi) (by rw [show i + 1 + (j - i - 1) = j by omega]; exact List.getElem?_eq_getElem hj)
      simpa using this
    · obtain ⟨i, hi⟩ := List.mem_iff_getElem?.1 hx
      have := hh i x hi
      exact ⟨this.1, this.2.1, this.2.2.1⟩
  · rintro ⟨h1, h2⟩ i hi x hx
    have hm := h2 x (List.mem_of_getElem? hx)
    have ha : ahdB L i x = true := by
      unfold ahdB
      split
      · rfl
      · rename_i h0
        cases e : L[i - 1]? with
        | none => rfl
        | some y =>
          rw [List.pairwise_iff_getElem] at h1
          have hy := (List.getElem?_eq_some_iff.1 e).1
          have := h1 (i - 1) i (by simpa using hy) (by simpa using hi) (by omega)
          have q1 := (List.getElem?_eq_some_iff.1 e).2
          have q2 := (List.getElem?_eq_some_iff.1 hx).2
          simp [q1, q2] at this
          simpa using this
    unfold okS
    simp [hm.1, hm.2.1, hm.2.2, ha]

theorem rise_nodup {L : List Se} (h : (L.map (·.i)).Pairwise (· < ·)) : (L.map (·.i)).Nodup := h.imp fun h => Nat.ne_of_lt h
theorem fstS_cases (d : Nat) (L : List Se) : (fstS d L = none ∧ ∀ x ∈ L, x.i ≠ d) ∨ ∃ i x, fstS d L = some i ∧ L[i]? = some x ∧ x.i = d := by
  cases e : fstS d L with
  | none =>
    refine .inl ⟨rfl, fun x hx hd => ?_⟩
    have := first_none _ _ e x hx
    rw [(isI_iff d x).2 hd] at this
    cases this
  | some i =>
    obtain ⟨x, h1, h2, _⟩ := first_some _ _ _ e
    exact .inr ⟨i, x, rfl, h1, (isI_iff d x).1 h2⟩
theorem hasS_iff (d : Nat) (L : List Se) : hasS d L = true ↔ ∃ x ∈ L, x.i = d := by
  unfold hasS
  rcases fstS_cases d L with ⟨h1, h2⟩ | ⟨i, x, h1, h2, h3⟩
  · rw [h1]
    constructor
    · intro h; cases h
    · rintro ⟨x, hx, hd⟩
      exact absurd hd (h2 x hx)
  · rw [h1]
    exact ⟨fun _ => ⟨x, List.mem_of_getElem? h2, h3⟩, fun _ => rfl⟩
theorem may_open {l : Nat} {L : List Se} (h : MayR l L) (e : opnE l L = 0) : MayR (l + 1) (L ++ [⟨l + 1, 0⟩]) := by
  unfold opnE at e
  by_cases h1 : 4 ≤ L.length ∨ 65535 ≤ l
  · rw [if_pos h1] at e; omega
  · have h2 : L.length < 4 ∧ l < 65535 := by omega
    refine ⟨by simp; omega, by omega, ?_, fun x hx => ?_⟩
    · rw [List.map_append, List.pairwise_append]
      refine ⟨h.2.2.1, by simp, fun a ha b hb => ?_⟩
      obtain ⟨x, hx, rfl⟩ := List.mem_map.1 ha
      simp at hb
      subst hb
      have := (h.2.2.2 x hx).2.1
      omega
    · rcases List.mem_append.1 hx with hx | hx
      · have := h.2.2.2 x hx
        exact ⟨this.1, by omega, this.2.2⟩
      · simp at hx
        subst hx
        exact ⟨by simp, Nat.le_refl _, by simp⟩
theorem may_sub {l : Nat} {L M : List Se} (h : MayR l L) (hs : M.Sublist L) : MayR l M :=
  ⟨Nat.le_trans hs.length_le h.1, h.2.1, h.2.2.1.sublist (hs.map _), fun x hx => h.2.2.2 x (hs.subset hx)⟩
theorem may_close {l d i : Nat} {L : List Se} (h : MayR l L) (e : fstS d L = some i) : MayR l (L.eraseIdx i) ∧ hasS d (L.eraseIdx i) = false ∧ ∀ x ∈ L, x.i ≠ d → hasS x.i (L.eraseIdx i) = true := by
  obtain ⟨x, h1, h2, _⟩ := first_some _ _ _ e
  have hd := (isI_iff d x).1 h2
  have hi := (List.getElem?_eq_some_iff.1 h1).1
  have ei := (List.getElem?_eq_some_iff.1 h1).2
  refine ⟨may_sub h (List.eraseIdx_sublist _ _), ?_, fun y hy hne => ?_⟩
  · rw [Bool.eq_false_iff]
    intro hh
    obtain ⟨y, hy, hyd⟩ := (hasS_iff _ _).1 hh
    obtain ⟨j, hj1, hj2, e2⟩ := List.mem_eraseIdx_iff_getElem.1 hy
    have hp := h.2.2.1
    rw [List.pairwise_iff_getElem] at hp
    rcases Nat.lt_or_gt_of_ne hj2 with hlt | hgt
    · have := hp j i (by simpa using hj1) (by simpa using hi) hlt
      simp [e2, ei] at this
      omega
    · have := hp i j (by simpa using hi) (by simpa using hj1) hgt
      simp [e2, ei] at this
      omega
  · rw [hasS_iff]
    obtain ⟨j, hj, e2⟩ := List.mem_iff_getElem.1 hy
    refine ⟨y, List.mem_eraseIdx_iff_getElem.2 ⟨j, hj, fun hij => ?_, e2⟩, rfl⟩
    subst hij
    rw [ei] at e2
    subst e2
    exact hne hd
theorem map_set_same {L : List Se} {i : Nat} {x : Se} (hx : L[i]? = some x) (n : Nat) : (L.set i ⟨x.i, n⟩).map (·.i) = L.map (·.i) := by
  apply List.ext_getElem?
  intro j
  rw [List.getElem?_map, List.getElem?_map, List.getElem?_set]
  by_cases hij : i = j
  · subst hij
    have hi := (List.getElem?_eq_some_iff.1 hx).1
    have ei := (List.getElem?_eq_some_iff.1 hx).2
    simp [hi, ei]
  · simp [hij]
theorem may_send {l i : Nat} {L : List Se} {x : Se} (h : MayR l L) (hx : L[i]? = some x) (hn : x.n < 4294967295) : MayR l (L.set i ⟨x.i, x.n + 1⟩) := by
  refine ⟨by rw [List.length_set]; exact h.1, h.2.1, by rw [map_set_same hx]; exact h.2.2.1, fun y hy => ?_⟩
  rcases List.mem_or_eq_of_mem_set hy with hy | rfl
  · exact h.2.2.2 y hy
  · have := h.2.2.2 x (List.mem_of_getElem? hx)
    exact ⟨this.1, this.2.1, by show x.n + 1 ≤ _; omega⟩

/- From nothing on: k were opened, s: what each sent; j: how many things were done. -/
structure InvO (j k : Nat) (L s : List Se) : Prop where
  may : MayR k L
  kj : k ≤ j
  sl : s.length = k
  sn : ∀ x ∈ s, x.n ≤ j
  same : ∀ x ∈ L, s[x.i - 1]? = some ⟨x.i, x.n⟩
theorem invO_none : InvO 0 0 [] [] := ⟨⟨by simp, by simp, by simp, by simp⟩, Nat.le_refl _, rfl, by simp, by simp⟩
theorem InvO.more {j k : Nat} {L s : List Se} (h : InvO j k L s) : InvO (j + 1) k L s := ⟨h.may, by have := h.kj; omega, h.sl, fun x hx => by have := h.sn x hx; omega, h.same⟩
theorem InvO.open {j k : Nat} {L s : List Se} (h : InvO j k L s) (hL : L.length < 4) (hj : j ≤ 200) : opnE k L = 0 ∧ InvO (j + 1) (k + 1) (L ++ [⟨k + 1, 0⟩]) (s ++ [⟨k + 1, 0⟩]) := by
  have hk := h.kj
  have e : opnE k L = 0 := by unfold opnE; rw [if_neg (by omega)]
  refine ⟨e, may_open h.may e, by omega, by simp [h.sl], fun x hx => ?_, fun x hx => ?_⟩
  · rcases List.mem_append.1 hx with hx | hx
    · have := h.sn x hx; omega
    · simp at hx; subst hx; simp
  · rcases List.mem_append.1 hx with hx | hx
    · have h1 := h.same x hx
      have h2 := (List.getElem?_eq_some_iff.1 h1).1
      rw [List.getElem?_append_left h2]
      exact h1
    · simp at hx
      subst hx
      show (s ++ [⟨k + 1, 0⟩])[k + 1 - 1]? = _
      rw [Nat.add_sub_cancel, List.getElem?_append_right (by rw [h.sl]; exact Nat.le_refl _), h.sl]
      simp
theorem InvO.close {j k d i : Nat} {L s : List Se} (h : InvO j k L s) (e : fstS d L = some i) : InvO (j + 1) k (L.eraseIdx i) s :=
  ⟨(may_close h.may e).1, by have := h.kj; omega, h.sl, fun x hx => by have := h.sn x hx; omega, fun x hx => h.same x ((List.eraseIdx_sublist _ _).subset hx)⟩
theorem InvO.send {j k i : Nat} {L s : List Se} {x : Se} (h : InvO j k L s) (hx : L[i]? = some x) (hj : j ≤ 200) : x.n < 4294967295 ∧ 1 ≤ x.i ∧ x.i ≤ k ∧ s[x.i - 1]? = some ⟨x.i, x.n⟩ ∧ InvO (j + 1) k (L.set i ⟨x.i, x.n + 1⟩) (s.set (x.i - 1) ⟨x.i, x.n + 1⟩) := by
  have hm := List.mem_of_getElem? hx
  have h1 := h.same x hm
  have h2 := h.sn _ (List.mem_of_getElem? h1)
  have h2 : x.n ≤ j := h2
  have h3 := h.may.2.2.2 x hm
  have hn : x.n < 4294967295 := by omega
  refine ⟨hn, h3.1, h3.2.1, h1, may_send h.may hx hn, by have := h.kj; omega, by rw [List.length_set]; exact h.sl, fun y hy => ?_, fun y hy => ?_⟩
  · rcases List.mem_or_eq_of_mem_set hy with hy | rfl
    · have := h.sn y hy; omega
    · show x.n + 1 ≤ j + 1; omega
  · have hi := (List.getElem?_eq_some_iff.1 hx).1
    have ei := (List.getElem?_eq_some_iff.1 hx).2
    have hl := (List.getElem?_eq_some_iff.1 h1).1
    obtain ⟨q, hq⟩ := List.mem_iff_getElem?.1 hy
    by_cases hqi : i = q
    · subst hqi
      rw [List.getElem?_set_self hi] at hq
      injection hq with hq
      subst hq
      show (s.set (x.i - 1) ⟨x.i, x.n + 1⟩)[x.i - 1]? = _
      rw [List.getElem?_set_self hl]
    · rw [List.getElem?_set_ne hqi] at hq
      have hym := List.mem_of_getElem? hq
      have hy1 := h.may.2.2.2 y hym
      have hql := (List.getElem?_eq_some_iff.1 hq).1
      have eq := (List.getElem?_eq_some_iff.1 hq).2
      have hp := h.may.2.2.1
      rw [List.pairwise_iff_getElem] at hp
      have hne : x.i ≠ y.i := by
        rcases Nat.lt_or_gt_of_ne hqi with hlt | hgt
        · have := hp i q (by simpa using hi) (by simpa using hql) hlt
          simp [ei, eq] at this
          omega
        · have := hp q i (by simpa using hql) (by simpa using hi) hgt
          simp [ei, eq] at this
          omega
      rw [List.getElem?_set_ne (by omega)]
      exact h.same y hym

end Go.Proofs.Ythhloomoiihfnaa
