/-
  Entries that wait: whose turn it is, what is taken and what still waits, the sessions that wait, as plain functions; what follows of them.
  No condition.
-/
import Derived.Test.YtkppidcamhbddaaEn
import Derived.Test.YtkppidcamhbddaaLw
namespace Go.Proofs.Ytkppidcamhbddaa
set_option maxRecDepth 10000
open Go.RowKit Go.Sort

/- The least session above a bound (of any, if it is said) that has an entry that waits. -/
def candS (b : Nat) (any : Bool) (e : En) : Bool := any || decide (b < e.se)
def minS (o : Option Nat) (s : Nat) : Option Nat :=
  match o with
  | none => some s
  | some m => if s < m then some s else some m
def leastS (b : Nat) (any : Bool) (L : List En) : Option Nat := L.foldl (fun o e => if candS b any e = true then minS o e.se else o) none
def isSe (s : Nat) (e : En) : Bool := decide (e.se = s)
def whoS (L : List En) (l : Nat) : Option Nat := (leastS l false L).or (leastS l true L)
def turnS (L : List En) (l : Nat) : Option Nat := (whoS L l).bind fun s => L.findIdx? (isSe s)
def entS (s : Nat) (L : List En) : List En := L.filter (isSe s)
def fillS : Nat → List En → Nat → List En × List En × Nat
  | 0, L, l => ([], L, l)
  | k + 1, L, l =>
    match turnS L l with
    | none => ([], L, l)
    | some i =>
      match L[i]? with
      | none => ([], L, l)
      | some e => (e :: (fillS k (L.eraseIdx i) e.se).1, (fillS k (L.eraseIdx i) e.se).2)
def manyS (slots : Int) : Nat := min slots.toNat 16
/- Into a rising list, where it is not there yet. -/
def insN (s : Nat) : List Nat → List Nat
  | [] => [s]
  | x :: L => if s < x then s :: x :: L else if s = x then x :: L else x :: insN s L
def sessS (L : List En) : List Nat := L.foldr (fun e o => insN e.se o) []
def abvS (L : List En) (l : Nat) : List Nat := (sessS L).filter fun s => decide (l < s)
def lowS (L : List En) (l : Nat) : List Nat := (sessS L).filter fun s => decide (s ≤ l)

theorem insN_mem (s : Nat) : ∀ (L : List Nat) (x : Nat), x ∈ insN s L ↔ x = s ∨ x ∈ L
  | [], x => by simp [insN]
  | y :: L, x => by
    unfold insN
    split
    · simp
    · split
      · rename_i h; subst h; simp
      · simp only [List.mem_cons, insN_mem s L x]
        constructor
        · rintro (h | h | h)
          · exact .inr (.inl h)
          · exact .inl h
          · exact .inr (.inr h)
        · rintro (h | h | h)
          · exact .inr (.inl h)
          · exact .inl h
          · exact .inr (.inr h)
theorem insN_rise (s : Nat) : ∀ (L : List Nat), L.Pairwise (· < ·) → (insN s L).Pairwise (· < ·)
  | [], _ => by simp [insN]
  | y :: L, h => by
    have h' := List.pairwise_cons.1 h
    unfold insN
    split
    · rename_i h1
      refine List.pairwise_cons.2 ⟨fun x hx => ?_, h⟩
      rcases List.mem_cons.1 hx with rfl | hx
      · exact h1
      · have := h'.1 x hx; omega
    · split
      · exact h
      · refine List.pairwise_cons.2 ⟨fun x hx => ?_, insN_rise s L h'.2⟩
        rcases (insN_mem s L x).1 hx with rfl | hx
        · omega
        · exact h'.1 x hx
theorem sessS_rise : ∀ L : List En, (sessS L).Pairwise (· < ·)
  | [] => by simp [sessS]
  | e :: L => insN_rise e.se _ (sessS_rise L)
theorem sessS_mem : ∀ (L : List En) (s : Nat), s ∈ sessS L ↔ ∃ e ∈ L, e.se = s
  | [], s => by simp [sessS]
  | e :: L, s => by
    rw [show sessS (e :: L) = insN e.se (sessS L) from rfl, insN_mem, sessS_mem L s]
    simp only [List.mem_cons]
    constructor
    · rintro (h | ⟨x, hx, h⟩)
      · exact ⟨e, .inl rfl, h.symm⟩
      · exact ⟨x, .inr hx, h⟩
    · rintro ⟨x, hx | hx, h⟩
      · subst hx; exact .inl h.symm
      · exact .inr ⟨x, hx, h⟩
theorem rise_eq {L M : List Nat} (hL : L.Pairwise (· < ·)) (hM : M.Pairwise (· < ·)) (h : ∀ x, x ∈ L ↔ x ∈ M) : L = M :=
  sorted_eq (· < ·) (fun a => Nat.lt_irrefl a) (fun a b h k => by omega) L M hL hM h
theorem abvS_rise (L : List En) (l : Nat) : (abvS L l).Pairwise (· < ·) := (sessS_rise L).filter _
theorem lowS_rise (L : List En) (l : Nat) : (lowS L l).Pairwise (· < ·) := (sessS_rise L).filter _
theorem abvS_mem (L : List En) (l s : Nat) : s ∈ abvS L l ↔ (∃ e ∈ L, e.se = s) ∧ l < s := by
  unfold abvS
  rw [List.mem_filter, sessS_mem, decide_eq_true_eq]
theorem lowS_mem (L : List En) (l s : Nat) : s ∈ lowS L l ↔ (∃ e ∈ L, e.se = s) ∧ s ≤ l := by
  unfold lowS
  rw [List.mem_filter, sessS_mem, decide_eq_true_eq]
theorem low_up (L : List En) (l : Nat) : lowS L l ++ abvS L l = sessS L := by
  refine rise_eq ?_ (sessS_rise L) fun x => ?_
  · rw [List.pairwise_append]
    refine ⟨lowS_rise L l, abvS_rise L l, fun a ha b hb => ?_⟩
    have h1 := ((lowS_mem L l a).1 ha).2
    have h2 := ((abvS_mem L l b).1 hb).2
    omega
  · rw [List.mem_append, lowS_mem, abvS_mem, sessS_mem]
    constructor
    · rintro (⟨h, _⟩ | ⟨h, _⟩) <;> exact h
    · intro h
      by_cases hx : x ≤ l
      · exact .inl ⟨h, hx⟩
      · exact .inr ⟨h, by omega⟩

/- The least one of some, gone over from the left. -/
theorem minS_some (o : Option Nat) (s : Nat) : ∃ m, minS o s = some m ∧ m ≤ s ∧ (∀ x, o = some x → m ≤ x) ∧ (m = s ∨ o = some m) := by
  cases o with
  | none => exact ⟨s, rfl, Nat.le_refl _, by simp, .inl rfl⟩
  | some x =>
    unfold minS
    by_cases h : s < x
    · exact ⟨s, by simp [h], Nat.le_refl _, fun y hy => by cases hy; omega, .inl rfl⟩
    · exact ⟨x, by simp [h], by omega, fun y hy => by cases hy; omega, .inr rfl⟩
theorem least_fold (b : Nat) (any : Bool) : ∀ (L : List En) (o : Option Nat), match L.foldl (fun o e => if candS b any e = true then minS o e.se else o) o with
    | none => o = none ∧ ∀ e ∈ L, candS b any e = false
    | some m => (o = some m ∨ ∃ e ∈ L, e.se = m ∧ candS b any e = true) ∧ (∀ x, o = some x → m ≤ x) ∧ ∀ e ∈ L, candS b any e = true → m ≤ e.se
  | [], o => by
    cases o with
    | none => simp
    | some m => simp
  | e :: L, o => by
    rw [List.foldl_cons]
    have ih := least_fold b any L (if candS b any e = true then minS o e.se else o)
    generalize hr : L.foldl (fun o e => if candS b any e = true then minS o e.se else o) (if candS b any e = true then minS o e.se else o) = r at ih ⊢
    by_cases hc : candS b any e = true
    · rw [if_pos hc] at ih
      obtain ⟨m, hm, h1, h2, h3⟩ := minS_some o e.se
      rw [hm] at ih
      cases r with
      | none => exact absurd ih.1 (by simp)
      | some k =>
        obtain ⟨g1, g2, g3⟩ := ih
        have hkm := g2 m rfl
        refine ⟨?_, fun x hx => Nat.le_trans hkm (h2 x hx), fun y hy hcy => ?_⟩
        · rcases g1 with g1 | ⟨y, hy, g⟩
          · cases g1
            rcases h3 with h3 | h3
            · exact .inr ⟨e, List.mem_cons_self .., h3.symm, hc⟩
            · exact .inl h3
          · exact .inr ⟨y, List.mem_cons_of_mem _ hy, g⟩
        · rcases List.mem_cons.1 hy with rfl | hy
          · omega
          · exact g3 y hy hcy
    · rw [if_neg hc] at ih
      have hcf : candS b any e = false := by simpa using hc
      cases r with
      | none =>
        refine ⟨ih.1, fun y hy => ?_⟩
        rcases List.mem_cons.1 hy with rfl | hy
        · exact hcf
        · exact ih.2 y hy
      | some k =>
        obtain ⟨g1, g2, g3⟩ := ih
        refine ⟨?_, g2, fun y hy hcy => ?_⟩
        · rcases g1 with g1 | ⟨y, hy, g⟩
          · exact .inl g1
          · exact .inr ⟨y, List.mem_cons_of_mem _ hy, g⟩
        · rcases List.mem_cons.1 hy with rfl | hy
          · rw [hcf] at hcy; cases hcy
          · exact g3 y hy hcy
theorem leastS_none {b : Nat} {any : Bool} {L : List En} (h : leastS b any L = none) : ∀ e ∈ L, candS b any e = false := by
  have := least_fold b any L none
  unfold leastS at h
  rw [h] at this
  exact this.2
theorem leastS_some {b : Nat} {any : Bool} {L : List En} {m : Nat} (h : leastS b any L = some m) : (∃ e ∈ L, e.se = m ∧ candS b any e = true) ∧ ∀ e ∈ L, candS b any e = true → m ≤ e.se := by
  have := least_fold b any L none
  unfold leastS at h
  rw [h] at this
  exact ⟨by simpa using this.1, this.2.2⟩
theorem leastS_any (b c : Nat) (L : List En) : leastS b true L = leastS c true L := by
  unfold leastS candS
  simp
/- Whose turn it is: the first of those above, or the first of all. -/
theorem whoS_up {L : List En} {l s : Nat} {R : List Nat} (h : abvS L l = s :: R) : whoS L l = some s := by
  have hr := abvS_rise L l
  rw [h] at hr
  have hs := (abvS_mem L l s).1 (by rw [h]; simp)
  unfold whoS
  cases e : leastS l false L with
  | none =>
    obtain ⟨⟨x, hx, hxs⟩, hls⟩ := hs
    have := leastS_none e x hx
    simp [candS] at this
    omega
  | some m =>
    obtain ⟨⟨x, hx, hxm, hc⟩, g⟩ := leastS_some e
    simp [candS] at hc
    have hm : m ∈ abvS L l := (abvS_mem L l m).2 ⟨⟨x, hx, hxm⟩, by omega⟩
    rw [h] at hm
    obtain ⟨⟨y, hy, hys⟩, hls⟩ := hs
    have h2 := g y hy (by simp [candS]; omega)
    rcases List.mem_cons.1 hm with h3 | h3
    · simp [h3]
    · have := (List.pairwise_cons.1 hr).1 m h3
      omega
theorem whoS_low {L : List En} {l s : Nat} {R : List Nat} (h0 : abvS L l = []) (h : sessS L = s :: R) : whoS L l = some s := by
  have hr := sessS_rise L
  rw [h] at hr
  unfold whoS
  have h1 : leastS l false L = none := by
    cases e : leastS l false L with
    | none => rfl
    | some m =>
      obtain ⟨⟨x, hx, hxm, hc⟩, g⟩ := leastS_some e
      simp [candS] at hc
      have : m ∈ abvS L l := (abvS_mem L l m).2 ⟨⟨x, hx, hxm⟩, by omega⟩
      rw [h0] at this
      cases this
  rw [h1]
  cases e : leastS l true L with
  | none =>
    obtain ⟨x, hx, hxs⟩ := (sessS_mem L s).1 (by rw [h]; simp)
    have := leastS_none e x hx
    simp [candS] at this
  | some m =>
    obtain ⟨⟨x, hx, hxm, _⟩, g⟩ := leastS_some e
    have hm : m ∈ sessS L := (sessS_mem L m).2 ⟨x, hx, hxm⟩
    obtain ⟨y, hy, hys⟩ := (sessS_mem L s).1 (by rw [h]; simp)
    have h2 := g y hy (by simp [candS])
    rw [h] at hm
    rcases List.mem_cons.1 hm with h3 | h3
    · simp [h3]
    · have := (List.pairwise_cons.1 hr).1 m h3
      omega
theorem whoS_nil (l : Nat) : whoS [] l = none := rfl
theorem turnS_of {L : List En} {l s : Nat} (h : whoS L l = some s) (hm : ∃ e ∈ L, e.se = s) : ∃ i e, turnS L l = some i ∧ L[i]? = some e ∧ e.se = s ∧ ∀ x ∈ L.take i, x.se ≠ s := by
  unfold turnS
  rw [h]
  show ∃ i e, L.findIdx? (isSe s) = some i ∧ _
  cases e : L.findIdx? (isSe s) with
  | none =>
    obtain ⟨x, hx, hxs⟩ := hm
    have := first_none _ _ e x hx
    simp [isSe, hxs] at this
  | some i =>
    obtain ⟨x, h1, h2, h3⟩ := first_some _ _ _ e
    refine ⟨i, x, rfl, h1, by simpa [isSe] using h2, fun y hy hys => ?_⟩
    have := h3 y hy
    simp [isSe, hys] at this
theorem sessS_nil {L : List En} (h : sessS L = []) : L = [] := by
  cases L with
  | nil => rfl
  | cons e L =>
    have := (sessS_mem (e :: L) e.se).2 ⟨e, by simp, rfl⟩
    rw [h] at this
    cases this
theorem whoS_mem {L : List En} {l s : Nat} (h : whoS L l = some s) : ∃ e ∈ L, e.se = s := by
  unfold whoS at h
  cases e : leastS l false L with
  | none =>
    rw [e] at h
    obtain ⟨⟨x, hx, hxm, _⟩, _⟩ := leastS_some (show leastS l true L = some s from by simpa using h)
    exact ⟨x, hx, hxm⟩
  | some m =>
    rw [e] at h
    obtain ⟨⟨x, hx, hxm, _⟩, _⟩ := leastS_some e
    have : m = s := by simpa using h
    exact ⟨x, hx, hxm.trans this⟩
theorem whoS_some {L : List En} (l : Nat) (h : L ≠ []) : ∃ s, whoS L l = some s := by
  cases e : abvS L l with
  | cons s R => exact ⟨s, whoS_up e⟩
  | nil =>
    cases e2 : sessS L with
    | nil => exact absurd (sessS_nil e2) h
    | cons s R => exact ⟨s, whoS_low e e2⟩
theorem turnS_some {L : List En} (l : Nat) (h : L ≠ []) : ∃ i e, turnS L l = some i ∧ L[i]? = some e ∧ whoS L l = some e.se ∧ ∀ x ∈ L.take i, x.se ≠ e.se := by
  obtain ⟨s, hs⟩ := whoS_some l h
  obtain ⟨i, e, h1, h2, h3, h4⟩ := turnS_of hs (whoS_mem hs)
  subst h3
  exact ⟨i, e, h1, h2, hs, h4⟩
theorem turnS_none (l : Nat) : turnS [] l = none := rfl

/- What is taken and what still waits. -/
theorem fillS_nil (k l : Nat) : fillS k [] l = ([], [], l) := by cases k <;> rfl
theorem fillS_cons {L : List En} {l i : Nat} {e : En} (k : Nat) (h1 : turnS L l = some i) (h2 : L[i]? = some e) : fillS (k + 1) L l = (e :: (fillS k (L.eraseIdx i) e.se).1, (fillS k (L.eraseIdx i) e.se).2) := by
  show (match turnS L l with | none => _ | some i => _) = _
  rw [h1]
  show (match L[i]? with | none => _ | some e => _) = _
  rw [h2]
theorem fillS_more (k : Nat) : ∀ (m : Nat) (L : List En) (l : Nat), fillS (m + k) L l = ((fillS m L l).1 ++ (fillS k (fillS m L l).2.1 (fillS m L l).2.2).1, (fillS k (fillS m L l).2.1 (fillS m L l).2.2).2)
  | 0, L, l => by rw [Nat.zero_add]; rfl
  | m + 1, L, l => by
    cases L with
    | nil => rw [fillS_nil, fillS_nil, fillS_nil]; rfl
    | cons x L =>
      obtain ⟨i, e, h1, h2, _, _⟩ := turnS_some (L := x :: L) l (by simp)
      rw [show m + 1 + k = (m + k) + 1 by omega, fillS_cons _ h1 h2, fillS_cons _ h1 h2, fillS_more k m]
      rfl
theorem fillS_lens : ∀ (k : Nat) (L : List En) (l : Nat), (fillS k L l).1.length = min k L.length ∧ (fillS k L l).1.length + (fillS k L l).2.1.length = L.length
  | 0, L, l => by simp [fillS]
  | k + 1, [], l => by simp [fillS_nil]
  | k + 1, x :: L, l => by
    obtain ⟨i, e, h1, h2, _, _⟩ := turnS_some (L := x :: L) l (by simp)
    have hi := (List.getElem?_eq_some_iff.1 h2).1
    have ih := fillS_lens k ((x :: L).eraseIdx i) e.se
    rw [fillS_cons _ h1 h2]
    rw [List.length_eraseIdx_of_lt hi] at ih
    simp only [List.length_cons] at *
    omega
theorem entS_erase {s : Nat} : ∀ (L : List En) (i : Nat) (e : En), L[i]? = some e → (∀ x ∈ L.take i, x.se ≠ e.se) → entS s L = (if e.se = s then [e] else []) ++ entS s (L.eraseIdx i)
  | [], i, e, h, _ => by simp at h
  | x :: L, 0, e, h, _ => by
    simp at h
    subst h
    unfold entS
    by_cases hs : x.se = s
    · simp [isSe, hs]
    · simp [isSe, hs]
  | x :: L, i + 1, e, h, hn => by
    have ih := entS_erase (s := s) L i e (by simpa using h) (fun y hy => hn y (by simp [hy]))
    have hx : x.se ≠ e.se := hn x (by simp)
    have : entS s (x :: L) = (if x.se = s then [x] else []) ++ entS s L := by
      unfold entS
      by_cases hs : x.se = s
      · simp [isSe, hs]
      · simp [isSe, hs]
    have h' : entS s ((x :: L).eraseIdx (i + 1)) = (if x.se = s then [x] else []) ++ entS s (L.eraseIdx i) := by
      unfold entS
      by_cases hs : x.se = s
      · simp [isSe, hs]
      · simp [isSe, hs]
    rw [this, h', ih]
    by_cases hs : x.se = s
    · have : ¬ e.se = s := fun h => hx (hs.trans h.symm)
      simp [hs, this]
    · simp [hs]
theorem fillS_of (s : Nat) : ∀ (k : Nat) (L : List En) (l : Nat), entS s (fillS k L l).1 ++ entS s (fillS k L l).2.1 = entS s L
  | 0, L, l => by simp [fillS, entS]
  | k + 1, [], l => by simp [fillS_nil, entS]
  | k + 1, x :: L, l => by
    obtain ⟨i, e, h1, h2, _, h4⟩ := turnS_some (L := x :: L) l (by simp)
    have ih := fillS_of s k ((x :: L).eraseIdx i) e.se
    rw [fillS_cons _ h1 h2, entS_erase (x :: L) i e h2 h4, ← ih]
    show entS s (e :: _) ++ _ = _
    unfold entS
    by_cases hs : e.se = s
    · simp [isSe, hs]
    · simp [isSe, hs]

theorem erase_se {L : List En} {i : Nat} {e : En} (h : L[i]? = some e) {s : Nat} (hs : s ≠ e.se) : (∃ x ∈ L.eraseIdx i, x.se = s) ↔ ∃ x ∈ L, x.se = s := by
  constructor
  · rintro ⟨x, hx, h1⟩
    exact ⟨x, (List.eraseIdx_sublist L i).subset hx, h1⟩
  · rintro ⟨x, hx, h1⟩
    obtain ⟨j, hj⟩ := List.mem_iff_getElem?.1 hx
    have hji : j ≠ i := by
      rintro rfl
      rw [h] at hj
      cases hj
      exact hs h1.symm
    refine ⟨x, ?_, h1⟩
    rw [List.mem_iff_getElem?]
    by_cases hlt : j < i
    · exact ⟨j, by rw [List.getElem?_eraseIdx_of_lt hlt]; exact hj⟩
    · exact ⟨j - 1, by rw [List.getElem?_eraseIdx_of_ge (by omega), show j - 1 + 1 = j by omega]; exact hj⟩
theorem abvS_next {L : List En} {i : Nat} {e : En} (h : L[i]? = some e) : abvS (L.eraseIdx i) e.se = abvS L e.se := by
  refine rise_eq (abvS_rise _ _) (abvS_rise _ _) fun x => ?_
  rw [abvS_mem, abvS_mem]
  constructor
  · rintro ⟨h1, h2⟩
    exact ⟨(erase_se h (by omega)).1 h1, h2⟩
  · rintro ⟨h1, h2⟩
    exact ⟨(erase_se h (by omega)).2 h1, h2⟩
theorem up_tail {L : List En} {l s : Nat} {R : List Nat} (h : abvS L l = s :: R) : abvS L s = R := by
  have hr := abvS_rise L l
  rw [h] at hr
  have hr' := List.pairwise_cons.1 hr
  refine rise_eq (abvS_rise _ _) hr'.2 fun x => ?_
  rw [abvS_mem]
  have hm : ∀ y, y ∈ s :: R ↔ (∃ e ∈ L, e.se = y) ∧ l < y := fun y => by rw [← h]; exact abvS_mem L l y
  have hls := ((hm s).1 (by simp)).2
  constructor
  · rintro ⟨h1, h2⟩
    rcases List.mem_cons.1 ((hm x).2 ⟨h1, by omega⟩) with h3 | h3
    · omega
    · exact h3
  · intro hx
    exact ⟨((hm x).1 (List.mem_cons_of_mem _ hx)).1, hr'.1 x hx⟩
/- So many turns as there are sessions above: each of these, rising. -/
theorem fillS_up : ∀ (k : Nat) (L : List En) (l : Nat), k ≤ (abvS L l).length → (fillS k L l).1.map En.se = (abvS L l).take k ∧ abvS (fillS k L l).2.1 (fillS k L l).2.2 = (abvS L l).drop k ∧ (∀ s, s ≤ l → ((∃ e ∈ (fillS k L l).2.1, e.se = s) ↔ ∃ e ∈ L, e.se = s)) ∧ l ≤ (fillS k L l).2.2 ∧ ∀ e ∈ (fillS k L l).2.1, e ∈ L
  | 0, L, l, _ => by simp [fillS]
  | k + 1, L, l, hk => by
    cases hu : abvS L l with
    | nil => rw [hu] at hk; simp at hk
    | cons s R =>
      have hw := whoS_up hu
      have hls := ((abvS_mem L l s).1 (by rw [hu]; simp)).2
      obtain ⟨i, e, h1, h2, h3, h4⟩ := turnS_of hw (whoS_mem hw)
      subst h3
      have hn : abvS (L.eraseIdx i) e.se = R := (abvS_next h2).trans (up_tail hu)
      have ih := fillS_up k (L.eraseIdx i) e.se (by rw [hn]; rw [hu] at hk; simpa using hk)
      rw [hn] at ih
      obtain ⟨g1, g2, g3, g4, g5⟩ := ih
      rw [fillS_cons _ h1 h2]
      refine ⟨by simp [g1], by simpa using g2, fun s' hs' => ?_, Nat.le_trans (Nat.le_of_lt hls) g4, fun x hx => (List.eraseIdx_sublist L i).subset (g5 x hx)⟩
      rw [g3 s' (by omega)]
      exact erase_se h2 (by omega)
theorem lastD (y a b : Nat) (Y : List Nat) : ((y :: Y).getLast?).getD a = ((y :: Y).getLast?).getD b := by
  rw [List.getLast?_eq_some_getLast (by simp)]
  rfl
theorem fillS_last : ∀ (k : Nat) (L : List En) (l : Nat), (fillS k L l).2.2 = (((fillS k L l).1.map En.se).getLast?).getD l
  | 0, L, l => by simp [fillS]
  | k + 1, [], l => by simp [fillS_nil]
  | k + 1, x :: L, l => by
    obtain ⟨i, e, h1, h2, _, _⟩ := turnS_some (L := x :: L) l (by simp)
    have ih := fillS_last k ((x :: L).eraseIdx i) e.se
    rw [fillS_cons _ h1 h2]
    show (fillS k ((x :: L).eraseIdx i) e.se).2.2 = _
    rw [ih, List.map_cons]
    cases hT : (fillS k ((x :: L).eraseIdx i) e.se).1.map En.se with
    | nil => simp
    | cons y Y => rw [List.getLast?_cons_cons]; exact lastD y _ _ Y
theorem take_app {α : Type} (A B : List α) : (A ++ B).take A.length = A := by simp
/- Behind them the others, from the least on: of each session one. -/
theorem fillS_all (L : List En) (l : Nat) : (fillS (sessS L).length L l).1.map En.se = abvS L l ++ lowS L l := by
  have hlen : (sessS L).length = (abvS L l).length + (lowS L l).length := by rw [← low_up L l, List.length_append]; omega
  rw [hlen, fillS_more]
  obtain ⟨g1, g2, g3, g4, g5⟩ := fillS_up (abvS L l).length L l (Nat.le_refl _)
  rw [List.take_of_length_le (Nat.le_refl _)] at g1
  rw [List.drop_of_length_le (Nat.le_refl _)] at g2
  rw [List.map_append, g1]
  congr 1
  generalize hL1 : (fillS (abvS L l).length L l).2.1 = L1 at *
  generalize hl1 : (fillS (abvS L l).length L l).2.2 = l1 at *
  cases hlow : lowS L l with
  | nil => simp [fillS]
  | cons s R =>
    -- the first: the least of all that still wait
    have hm : ∀ y, y ∈ s :: R ↔ (∃ e ∈ L, e.se = y) ∧ y ≤ l := fun y => by rw [← hlow]; exact lowS_mem L l y
    have hr := lowS_rise L l
    rw [hlow] at hr
    have hr' := List.pairwise_cons.1 hr
    have hs := (hm s).1 (by simp)
    obtain ⟨s0, R0, hs0⟩ : ∃ s0 R0, sessS L1 = s0 :: R0 := by
      cases e : sessS L1 with
      | nil =>
        have := sessS_nil e
        obtain ⟨x, hx, _⟩ := (g3 s hs.2).2 hs.1
        rw [this] at hx
        cases hx
      | cons a b => exact ⟨a, b, rfl⟩
    have hr0 := sessS_rise L1
    rw [hs0] at hr0
    have hs0s : s0 = s := by
      have h1 : s ∈ sessS L1 := (sessS_mem L1 s).2 ((g3 s hs.2).2 hs.1)
      rw [hs0] at h1
      rcases List.mem_cons.1 h1 with h1 | h1
      · exact h1.symm
      · have h2 := (List.pairwise_cons.1 hr0).1 s h1
        obtain ⟨x, hx, hxs⟩ := (sessS_mem L1 s0).1 (by rw [hs0]; simp)
        have h3 := (hm s0).2 ⟨⟨x, g5 x hx, hxs⟩, by have := hs.2; omega⟩
        rcases List.mem_cons.1 h3 with h3 | h3
        · omega
        · have := hr'.1 s0 h3; omega
    subst hs0s
    have hw := whoS_low g2 hs0
    obtain ⟨i, e, h1, h2, h3, h4⟩ := turnS_of hw (whoS_mem hw)
    rw [List.length_cons, fillS_cons _ h1 h2, List.map_cons, h3]
    congr 1
    have hn : abvS (L1.eraseIdx i) s0 = abvS L1 s0 := by rw [← h3]; exact abvS_next h2
    -- those above it: first the rest of those up to l
    have hup : abvS L1 s0 = R ++ abvS L1 l := by
      refine rise_eq (abvS_rise _ _) ?_ fun x => ?_
      · rw [List.pairwise_append]
        refine ⟨hr'.2, abvS_rise _ _, fun a ha b hb => ?_⟩
        have k1 := ((hm a).1 (List.mem_cons_of_mem _ ha)).2
        have k2 := ((abvS_mem L1 l b).1 hb).2
        omega
      · rw [List.mem_append, abvS_mem, abvS_mem]
        constructor
        · rintro ⟨k1, k2⟩
          by_cases hx : x ≤ l
          · rcases List.mem_cons.1 ((hm x).2 ⟨(g3 x hx).1 k1, hx⟩) with k3 | k3
            · omega
            · exact .inl k3
          · exact .inr ⟨k1, by omega⟩
        · rintro (k1 | ⟨k1, k2⟩)
          · have k2 := (hm x).1 (List.mem_cons_of_mem _ k1)
            exact ⟨(g3 x k2.2).2 k2.1, hr'.1 x k1⟩
          · exact ⟨k1, by have := hs.2; omega⟩
    have hf := (fillS_up R.length (L1.eraseIdx i) s0 (by rw [hn, hup]; simp)).1
    rw [hn, hup, take_app] at hf
    exact hf
/- How often a session is not above the one ahead. -/
def downS : Nat → List Nat → Nat
  | _, [] => 0
  | a, s :: L => (if s ≤ a then 1 else 0) + downS s L
theorem downS_rise : ∀ (a : Nat) (L : List Nat), (a :: L).Pairwise (· < ·) → downS a L = 0
  | a, [], _ => rfl
  | a, s :: L, h => by
    have h1 := List.pairwise_cons.1 h
    unfold downS
    rw [downS_rise s L h1.2, if_neg (by have := h1.1 s (by simp); omega)]
theorem downS_app : ∀ (a : Nat) (A B : List Nat), (a :: A).Pairwise (· < ·) → downS a (A ++ B) = downS ((A.getLast?).getD a) B
  | a, [], B, _ => rfl
  | a, s :: A, B, h => by
    have h1 := List.pairwise_cons.1 h
    rw [List.cons_append, show downS a (s :: (A ++ B)) = (if s ≤ a then 1 else 0) + downS s (A ++ B) from rfl, if_neg (by have := h1.1 s (by simp); omega), downS_app s A B h1.2, Nat.zero_add]
    cases A with
    | nil => rfl
    | cons y Y => rw [List.getLast?_cons_cons, lastD y s a]
theorem down_all (L : List En) (l : Nat) : downS l (abvS L l ++ lowS L l) ≤ 1 := by
  rw [downS_app]
  · cases h : lowS L l with
    | nil => simp [downS]
    | cons s R =>
      have hr := lowS_rise L l
      rw [h] at hr
      unfold downS
      rw [downS_rise s R hr]
      split <;> omega
  · refine List.pairwise_cons.2 ⟨fun x hx => ((abvS_mem L l x).1 hx).2, abvS_rise L l⟩
theorem once_all (L : List En) (l : Nat) {s : Nat} (hs : s ∈ sessS L) : (entS s (fillS (sessS L).length L l).1).length = 1 := by
  have h := fillS_all L l
  have hnd : (abvS L l ++ lowS L l).Nodup := by
    rw [List.nodup_append]
    refine ⟨(abvS_rise L l).imp (fun h => Nat.ne_of_lt h), (lowS_rise L l).imp (fun h => Nat.ne_of_lt h), fun a ha b hb => ?_⟩
    have h1 := ((abvS_mem L l a).1 ha).2
    have h2 := ((lowS_mem L l b).1 hb).2
    omega
  have hm : s ∈ abvS L l ++ lowS L l := by
    rw [← low_up L l, List.mem_append] at hs
    rw [List.mem_append]
    exact hs.symm
  have hc : (abvS L l ++ lowS L l).count s = 1 := by rw [List.Nodup.count hnd, if_pos hm]
  rw [← h] at hc
  rw [← hc]
  unfold entS
  generalize (fillS (sessS L).length L l).1 = T
  induction T with
  | nil => rfl
  | cons x T ih =>
    rw [List.map_cons, List.count_cons]
    by_cases hx : x.se = s
    · simp [isSe, hx]
      simpa [isSe] using ih
    · simp [isSe, hx]
      simpa [isSe] using ih

end Go.Proofs.Ytkppidcamhbddaa
