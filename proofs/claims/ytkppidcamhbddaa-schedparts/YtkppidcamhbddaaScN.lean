/-
  Whose turn it is, by how far a session stands behind the last one, going round; what is taken, turn by turn; the sessions of some entries, out of a row that was sorted.
  The sessions fit.
-/
import Derived.Test.YtkppidcamhbddaaScM
namespace Go.Proofs.Ytkppidcamhbddaa
set_option maxRecDepth 10000
open Go.RowKit Go.Sort
set_option linter.unusedVariables false

def awy (s l : Nat) : Nat := (s + (18446744073709551615 - l)) % 18446744073709551616
theorem awy_up {s l : Nat} (hs : s < 18446744073709551616) (h : l < s) : awy s l = s - l - 1 := by unfold awy; omega
theorem awy_low {s l : Nat} (hl : l < 18446744073709551616) (h : s ≤ l) : awy s l = s + (18446744073709551615 - l) := by unfold awy; omega
theorem awy_inj {s t l : Nat} (hs : s < 18446744073709551616) (ht : t < 18446744073709551616) (hl : l < 18446744073709551616) (h : awy s l = awy t l) : s = t := by unfold awy at h; omega
theorem awy_int {s l : Nat} (hs : s < 18446744073709551616) (hl : l < 18446744073709551616) : IntKind.u64.wrap (IntKind.u64.wrap ((s : Int) - (l : Int)) - 1) = (awy s l : Int) := by
  rw [IntKind.wrap_u64, IntKind.wrap_u64]
  unfold awy
  omega

def FitS (L : List En) : Prop := ∀ e ∈ L, e.se < 18446744073709551616
theorem FitS.erase {L : List En} (h : FitS L) (i : Nat) : FitS (L.eraseIdx i) := fun e he => h e ((List.eraseIdx_sublist L i).subset he)
/- The place after so many entries were looked at. -/
def pkA (l : Nat) (L : List En) : Nat → Nat
  | 0 => 0
  | j + 1 => if awy ((L[j]?).getD En.zero).se l < awy ((L[pkA l L j]?).getD En.zero).se l then j else pkA l L j
theorem pkA_lt (l : Nat) (L : List En) (h : 0 < L.length) : ∀ j, j ≤ L.length → pkA l L j < L.length
  | 0, _ => h
  | j + 1, hj => by
    unfold pkA
    split
    · omega
    · exact pkA_lt l L h j (by omega)
theorem pkA_yes {l j : Nat} {L : List En} {x y : En} (hx : L[j]? = some x) (hy : L[pkA l L j]? = some y) (h : awy x.se l < awy y.se l) : pkA l L (j + 1) = j := by
  unfold pkA
  rw [hx, hy, Option.getD_some, Option.getD_some, if_pos h]
theorem pkA_no {l j : Nat} {L : List En} {x y : En} (hx : L[j]? = some x) (hy : L[pkA l L j]? = some y) (h : ¬ awy x.se l < awy y.se l) : pkA l L (j + 1) = pkA l L j := by
  conv => lhs; unfold pkA
  rw [hx, hy, Option.getD_some, Option.getD_some, if_neg h]
theorem pkA_inv (l : Nat) (L : List En) (h : 0 < L.length) : ∀ j, j ≤ L.length → ∀ y, L[pkA l L j]? = some y → (∀ i, i < j → ∀ x, L[i]? = some x → awy y.se l ≤ awy x.se l) ∧ (∀ i, i < pkA l L j → ∀ x, L[i]? = some x → awy y.se l < awy x.se l)
  | 0, _, y, _ => ⟨fun i hi => by omega, fun i hi => by unfold pkA at hi; omega⟩
  | j + 1, hj, y, hy => by
    obtain ⟨x, hx⟩ : ∃ x, L[j]? = some x := ⟨_, List.getElem?_eq_getElem (by omega)⟩
    obtain ⟨z, hz⟩ : ∃ z, L[pkA l L j]? = some z := ⟨_, List.getElem?_eq_getElem (pkA_lt l L h j (by omega))⟩
    obtain ⟨i1, i2⟩ := pkA_inv l L h j (by omega) z hz
    by_cases hlt : awy x.se l < awy z.se l
    · rw [pkA_yes hx hz hlt] at hy ⊢
      rw [hx] at hy
      cases hy
      refine ⟨fun i hi u hu => ?_, fun i hi u hu => ?_⟩
      · rcases Nat.lt_or_ge i j with hij | hij
        · have := i1 i hij u hu; omega
        · obtain rfl : i = j := by omega
          rw [hx] at hu; cases hu; exact Nat.le_refl _
      · have := i1 i hi u hu; omega
    · rw [pkA_no hx hz hlt] at hy ⊢
      rw [hz] at hy
      cases hy
      refine ⟨fun i hi u hu => ?_, i2⟩
      rcases Nat.lt_or_ge i j with hij | hij
      · exact i1 i hij u hu
      · obtain rfl : i = j := by omega
        rw [hx] at hu; cases hu; omega
theorem whoS_least {L : List En} {l s : Nat} (hf : FitS L) (hl : l < 18446744073709551616) (h : whoS L l = some s) : ∀ x ∈ L, awy s l ≤ awy x.se l := by
  intro x hx
  have hxf := hf x hx
  cases hu : abvS L l with
  | cons s' R =>
    have h2 := whoS_up hu
    rw [h] at h2
    cases h2
    have hr := abvS_rise L l
    rw [hu] at hr
    have hs := (abvS_mem L l s).1 (by rw [hu]; simp)
    obtain ⟨⟨y, hy, hys⟩, hls⟩ := hs
    have hsf : s < 18446744073709551616 := by rw [← hys]; exact hf y hy
    by_cases hxl : l < x.se
    · have hm : x.se ∈ abvS L l := (abvS_mem L l x.se).2 ⟨⟨x, hx, rfl⟩, hxl⟩
      rw [hu] at hm
      rw [awy_up hsf hls, awy_up hxf hxl]
      rcases List.mem_cons.1 hm with e | e
      · omega
      · have := (List.pairwise_cons.1 hr).1 _ e; omega
    · rw [awy_up hsf hls, awy_low hl (by omega)]
      omega
  | nil =>
    cases hs : sessS L with
    | nil => rw [sessS_nil hs] at hx; cases hx
    | cons s' R =>
      have h2 := whoS_low hu hs
      rw [h] at h2
      cases h2
      have hr := sessS_rise L
      rw [hs] at hr
      have hle : ∀ y ∈ L, y.se ≤ l := fun y hy => by
        by_cases hc : y.se ≤ l
        · exact hc
        · have : y.se ∈ abvS L l := (abvS_mem L l y.se).2 ⟨⟨y, hy, rfl⟩, by omega⟩
          rw [hu] at this; cases this
      obtain ⟨y, hy, hys⟩ := (sessS_mem L s).1 (by rw [hs]; simp)
      have hm : x.se ∈ sessS L := (sessS_mem L x.se).2 ⟨x, hx, rfl⟩
      rw [hs] at hm
      have hsl := hle y hy
      rw [awy_low hl (by omega), awy_low hl (hle x hx)]
      rcases List.mem_cons.1 hm with e | e
      · omega
      · have := (List.pairwise_cons.1 hr).1 _ e; omega
theorem turnS_pk {L : List En} {l : Nat} (hf : FitS L) (hl : l < 18446744073709551616) (h : 0 < L.length) : turnS L l = some (pkA l L L.length) := by
  have hne : L ≠ [] := fun e => by rw [e] at h; simp at h
  obtain ⟨i, e, h1, h2, h3, h4⟩ := turnS_some l hne
  obtain ⟨y, hy⟩ : ∃ y, L[pkA l L L.length]? = some y := ⟨_, List.getElem?_eq_getElem (pkA_lt l L h _ (Nat.le_refl _))⟩
  obtain ⟨i1, i2⟩ := pkA_inv l L h L.length (Nat.le_refl _) y hy
  have hi := (List.getElem?_eq_some_iff.1 h2).1
  have hye := whoS_least hf hl h3 y (List.mem_of_getElem? hy)
  have hey := i1 i hi e h2
  have heq : y.se = e.se := awy_inj (hf y (List.mem_of_getElem? hy)) (hf e (List.mem_of_getElem? h2)) hl (by omega)
  rw [h1]
  congr 1
  rcases Nat.lt_trichotomy i (pkA l L L.length) with c | c | c
  · have := i2 i c e h2; rw [heq] at this; omega
  · exact c
  · exfalso
    have hm : y ∈ L.take i := by
      rw [List.mem_iff_getElem?]
      exact ⟨pkA l L L.length, by rw [List.getElem?_take, if_pos c]; exact hy⟩
    exact h4 y hm heq

/- What is taken, turn by turn. -/
theorem fill_step {L : List En} {l j : Nat} (h : (fillS j L l).2.1 ≠ []) : ∃ i e, turnS (fillS j L l).2.1 (fillS j L l).2.2 = some i ∧ (fillS j L l).2.1[i]? = some e ∧ fillS (j + 1) L l = ((fillS j L l).1 ++ [e], (fillS j L l).2.1.eraseIdx i, e.se) := by
  obtain ⟨i, e, h1, h2, _, _⟩ := turnS_some (fillS j L l).2.2 h
  refine ⟨i, e, h1, h2, ?_⟩
  rw [fillS_more 1 j L l, fillS_cons 0 h1 h2]
  rfl
theorem fill_stop {L : List En} {l j : Nat} (k : Nat) (h : (fillS j L l).2.1 = []) : fillS (j + k) L l = fillS j L l := by
  rw [fillS_more k j L l]
  generalize fillS j L l = F at h ⊢
  obtain ⟨X, Y, m⟩ := F
  simp only at h
  subst h
  rw [fillS_nil]
  simp
theorem fill_fit {L : List En} {l : Nat} (hf : FitS L) : ∀ j, FitS (fillS j L l).2.1
  | 0 => hf
  | j + 1 => by
    have ih := fill_fit (l := l) hf j
    by_cases h : (fillS j L l).2.1 = []
    · rw [fill_stop 1 h]; exact ih
    · obtain ⟨i, e, _, _, h3⟩ := fill_step h
      rw [h3]
      exact ih.erase i
theorem fill_last {L : List En} {l : Nat} (hf : FitS L) (hl : l < 18446744073709551616) : ∀ j, (fillS j L l).2.2 < 18446744073709551616
  | 0 => hl
  | j + 1 => by
    have ih := fill_last hf hl j
    by_cases h : (fillS j L l).2.1 = []
    · rw [fill_stop 1 h]; exact ih
    · obtain ⟨i, e, _, h2, h3⟩ := fill_step h
      rw [h3]
      exact fill_fit (l := l) hf j e (List.mem_of_getElem? h2)
theorem fill_len (L : List En) (l j : Nat) : (fillS j L l).1.length ≤ j ∧ (fillS j L l).2.1.length ≤ L.length ∧ (fillS j L l).1.length ≤ L.length := by
  have := fillS_lens j L l
  omega

end Go.Proofs.Ytkppidcamhbddaa
