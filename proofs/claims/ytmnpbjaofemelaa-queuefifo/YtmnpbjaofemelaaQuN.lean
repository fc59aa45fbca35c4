/-
  Entries that wait: the code's way of adding them, and what the loops carry.
  No condition.
-/
import Derived.Test.YtmnpbjaofemelaaQu
namespace Go.Proofs.Ytmnpbjaofemelaa
set_option maxRecDepth 10000
open Go.RowKit Go.Sort
set_option linter.unusedVariables false
set_option linter.unusedSimpArgs false

/- How many stand ahead of the first one that a place is Before. -/
def cntQ (p : Pl) : List Wt → Nat
  | [] => 0
  | x :: q => if befB p x.p = true then 0 else cntQ p q + 1
theorem cnt_le (p : Pl) : ∀ q : List Wt, cntQ p q ≤ q.length
  | [] => Nat.le_refl _
  | x :: q => by
    have := cnt_le p q
    unfold cntQ
    split <;> simp <;> omega
theorem cnt_at (p : Pl) : ∀ (q : List Wt) (j : Nat) (k : Wt), q[j]? = some k → befB p k.p = true → (∀ x ∈ q.take j, befB p x.p = false) → cntQ p q = j
  | [], j, k, h, _, _ => by simp at h
  | x :: q, 0, k, h, hb, _ => by
    simp at h
    subst h
    unfold cntQ
    rw [if_pos hb]
  | x :: q, j + 1, k, h, hb, ha => by
    unfold cntQ
    rw [if_neg (by rw [ha x (by simp)]; simp), cnt_at p q j k (by simpa using h) hb (fun y hy => ha y (by simp [hy]))]
theorem cnt_no (p : Pl) : ∀ (q : List Wt), (∀ x ∈ q, befB p x.p = false) → cntQ p q = q.length
  | [], _ => rfl
  | x :: q, h => by
    unfold cntQ
    rw [if_neg (by rw [h x (by simp)]; simp), cnt_no p q (fun y hy => h y (by simp [hy]))]
    rfl
theorem ins_cnt (w : Wt) : ∀ q : List Wt, insQ w q = q.take (cntQ w.p q) ++ [w] ++ q.drop (cntQ w.p q)
  | [] => rfl
  | x :: q => by
    unfold insQ cntQ
    split
    · rfl
    · rw [ins_cnt w q]
      simp
theorem cnt_take (p : Pl) : ∀ (q : List Wt), ∀ x ∈ q.take (cntQ p q), befB p x.p = false
  | [], x, h => by simp at h
  | y :: q, x, h => by
    unfold cntQ at h
    split at h
    · simp at h
    · rename_i hb
      simp at h
      rcases h with rfl | h
      · simpa using hb
      · exact cnt_take p q x h
theorem ins_app (w : Wt) : ∀ (s t : List Wt), (∀ y ∈ s, befB w.p y.p = false) → insQ w (s ++ t) = s ++ insQ w t
  | [], _, _ => rfl
  | y :: s, t, h => by
    show insQ w (y :: (s ++ t)) = y :: (s ++ insQ w t)
    rw [← ins_app w s t (fun z hz => h z (by simp [hz]))]
    conv => lhs; unfold insQ
    rw [if_neg (by rw [h y (by simp)]; simp)]

/- The code's way: what is laid so far, and what is left of the queue. -/
def skipQ (q : List Wt) (x : Wt) : Bool := hasP x.p q || noE x.e
def addC (q : List Wt) (f : Int) (r : Nat) : Nat → List En → List Wt → List Wt → List Wt
  | _, [], s, t => s ++ t
  | i, e :: l, s, t =>
    if skipQ q ⟨⟨r, f, (i : Int)⟩, e⟩ = true then addC q f r (i + 1) l s t
    else addC q f r (i + 1) l (s ++ t.take (cntQ ⟨r, f, (i : Int)⟩ t) ++ [⟨⟨r, f, (i : Int)⟩, e⟩]) (t.drop (cntQ ⟨r, f, (i : Int)⟩ t))
theorem addC_add (q : List Wt) (f : Int) (r : Nat) : ∀ (l : List En) (i : Nat) (s t : List Wt), (∀ y ∈ s, ∀ k : Int, (i : Int) ≤ k → befB ⟨r, f, k⟩ y.p = false) → (∀ k : Int, (i : Int) ≤ k → hasP ⟨r, f, k⟩ (s ++ t) = hasP ⟨r, f, k⟩ q) → addQ f r i l (s ++ t) = addC q f r i l s t
  | [], _, _, _, _, _ => rfl
  | e :: l, i, s, t, hs, hh => by
    unfold addQ addC
    have hcast : ∀ k : Int, ((i + 1 : Nat) : Int) ≤ k → (i : Int) ≤ k := fun k hk => by omega
    have hi := hh (i : Int) (Int.le_refl _)
    unfold skipQ
    cases hz : noE e with
    | true =>
      simp only [hz, Bool.or_true, if_true]
      exact addC_add q f r l (i + 1) s t (fun y hy k hk => hs y hy k (hcast k hk)) (fun k hk => hh k (hcast k hk))
    | false =>
      simp only [hz, Bool.or_false, Bool.false_eq_true, if_false]
      unfold addQ1
      simp only [hi]
      cases hp : hasP ⟨r, f, (i : Int)⟩ q with
      | true =>
        simp only [if_true]
        exact addC_add q f r l (i + 1) s t (fun y hy k hk => hs y hy k (hcast k hk)) (fun k hk => hh k (hcast k hk))
      | false =>
        simp only [Bool.false_eq_true, if_false]
        rw [ins_app _ _ _ (fun y hy => hs y hy _ (Int.le_refl _)), ins_cnt, ← List.append_assoc, ← List.append_assoc]
        refine addC_add q f r l (i + 1) _ _ ?_ ?_
        · intro y hy k hk
          have hk' := hcast k hk
          simp only [List.mem_append, List.mem_singleton] at hy
          rcases hy with (hy | hy) | hy
          · exact hs y hy k hk'
          · have h1 := cnt_take _ _ y hy
            cases hb : befB ⟨r, f, k⟩ y.p with
            | false => rfl
            | true =>
              rw [befB_iff] at hb
              have h2 : Bef ⟨r, f, (i : Int)⟩ ⟨r, f, k⟩ := .inr ⟨rfl, .inr ⟨rfl, by simp only; omega⟩⟩
              rw [(befB_iff _ _).2 (h2.trans hb)] at h1
              cases h1
          · subst hy
            cases hb : befB ⟨r, f, k⟩ ⟨r, f, (i : Int)⟩ with
            | false => rfl
            | true =>
              rw [befB_iff] at hb
              unfold Bef at hb
              simp only at hb
              omega
        · intro k hk
          have h1 := hh k (hcast k hk)
          rw [← h1]
          unfold hasP
          have h2 : Pl.same ⟨r, f, (i : Int)⟩ ⟨r, f, k⟩ = false := by
            cases hb : Pl.same ⟨r, f, (i : Int)⟩ ⟨r, f, k⟩ with
            | false => rfl
            | true =>
              rw [Pl.same_iff] at hb
              injection hb with _ _ hb
              omega
          conv => rhs; rw [← List.take_append_drop (cntQ ⟨r, f, (i : Int)⟩ t) t]
          simp only [List.any_append, List.any_cons, List.any_nil, h2, Bool.false_or, Bool.or_false, Bool.or_assoc]
theorem addQ_code (f : Int) (r : Nat) (l : List En) (q : List Wt) : addQ f r 0 l q = addC q f r 0 l [] q := addC_add q f r l 0 [] q (fun y hy => by cases hy) (fun k _ => rfl)
theorem addQ_size (f : Int) (r : Nat) : ∀ (l : List En) (i : Nat) (q : List Wt), (addQ f r i l q).length ≤ q.length + l.length
  | [], _, q => by unfold addQ; simp
  | e :: l, i, q => by
    have h := addQ_size f r l (i + 1) (if noE e = true then q else addQ1 ⟨⟨r, f, (i : Int)⟩, e⟩ q)
    have h2 : (if noE e = true then q else addQ1 ⟨⟨r, f, (i : Int)⟩, e⟩ q).length ≤ q.length + 1 := by
      split
      · omega
      · unfold addQ1
        split
        · omega
        · rw [insQ_len]; exact Nat.le_refl _
    unfold addQ
    simp only [List.length_cons]
    omega
theorem addQ_fit (f : Int) (r : Nat) (hr : r < 4294967296) (hf : -9223372036854775808 ≤ f ∧ f ≤ 9223372036854775807) : ∀ (l : List En) (i : Nat) (q : List Wt), i + l.length ≤ 9223372036854775807 → (∀ x ∈ q, x.fit) → ∀ x ∈ addQ f r i l q, x.fit
  | [], _, q, _, h => h
  | e :: l, i, q, hl, h => by
    simp only [List.length_cons] at hl
    unfold addQ
    refine addQ_fit f r hr hf l (i + 1) _ (by omega) ?_
    split
    · exact h
    · intro x hx
      rcases (add1_mem _ _ _).1 hx with ⟨hx, _⟩ | hx
      · subst hx
        exact ⟨hr, hf, by simp only; omega, by simp only; omega⟩
      · exact h x hx

/- Are all ordered ones ready so far? -/
def opnTo (c m : Nat → Nat) (q : List Wt) (j : Nat) : Bool := (q.take j).all fun w => !ordB w.e || isQ c m w
theorem opn_next (c m : Nat → Nat) (q : List Wt) (j : Nat) (x : Wt) (h : q[j]? = some x) : opnTo c m q (j + 1) = openQ c m (opnTo c m q j) x := by
  unfold opnTo openQ
  rw [List.take_add_one, h, List.all_append]
  simp
theorem rdy_at (c m : Nat → Nat) (o : Bool) (q : List Wt) (j : Nat) (x : Wt) (h : q[j]? = some x) : rdyQ c m o (q.drop j) = (if takeQ c m o x = true then [x] else []) ++ rdyQ c m (openQ c m o x) (q.drop (j + 1)) := by
  obtain ⟨hj, rfl⟩ := List.getElem?_eq_some_iff.1 h
  rw [List.drop_eq_getElem_cons hj]
  rfl
theorem rst_at (c m : Nat → Nat) (o : Bool) (q : List Wt) (j : Nat) (x : Wt) (h : q[j]? = some x) : rstQ c m o (q.drop j) = (if takeQ c m o x = true then [] else [x]) ++ rstQ c m (openQ c m o x) (q.drop (j + 1)) := by
  obtain ⟨hj, rfl⟩ := List.getElem?_eq_some_iff.1 h
  rw [List.drop_eq_getElem_cons hj]
  rfl
theorem drop_all {α : Type} (q : List α) {n : Nat} (h : q.length = n) : q.drop n = [] := List.drop_eq_nil_of_le (by omega)
def ordS (s : Int) : Bool := decide (s = 2) || decide (s = 3)
theorem ordS_sv (e : En) : ordS (svOf e) = ordB e := by
  unfold ordS svOf ordB
  by_cases h : e.k = 1
  · simp [h]
  · simp [h]

/- Is it a queue, without an entry that is nothing? -/
def stepM (q : List Wt) (j : Nat) (x : Wt) : Bool := !noE x.e && (match j with | 0 => true | j + 1 => (match q[j]? with | some y => befB y.p x.p | none => true))
def mayM (q : List Wt) (j : Nat) : Bool := (List.range j).all fun i => match q[i]? with | some x => stepM q i x | none => true
theorem mayM_next (q : List Wt) (j : Nat) (x : Wt) (h : q[j]? = some x) : mayM q (j + 1) = (mayM q j && stepM q j x) := by
  unfold mayM
  rw [List.range_succ, List.all_append]
  simp [h]
theorem mayM_no (q : List Wt) (j n : Nat) (hn : q.length = n) (hj : j < n) (h : mayM q (j + 1) = false) : mayM q n = false := by
  cases hm : mayM q n with
  | false => rfl
  | true =>
    unfold mayM at h hm
    rw [List.all_eq_true] at hm
    rw [List.all_eq_false] at h
    obtain ⟨i, hi, hb⟩ := h
    exact absurd (hm i (by simp at hi ⊢; omega)) hb
def mayW (q : List Wt) : Bool := mayM q q.length
theorem mayW_iff (q : List Wt) : mayW q = true ↔ MayQ q := by
  unfold mayW mayM
  rw [List.all_eq_true]
  constructor
  · intro h
    have hs : ∀ i x, q[i]? = some x → stepM q i x = true := fun i x hx => by
      have h1 := h i (by simp; exact (List.getElem?_eq_some_iff.1 hx).1)
      rw [hx] at h1
      exact h1
    have hst : ∀ i x y, q[i]? = some x → q[i + 1]? = some y → Bef x.p y.p := fun i x y hx hy => by
      have h1 := hs (i + 1) y hy
      unfold stepM at h1
      rw [Bool.and_eq_true] at h1
      have h2 := h1.2
      simp only [hx] at h2
      exact (befB_iff _ _).1 h2
    have hfar : ∀ d i x y, q[i]? = some x → q[i + d + 1]? = some y → Bef x.p y.p := by
      intro d
      induction d with
      | zero => exact fun i x y hx hy => hst i x y hx hy
      | succ d ih =>
        intro i x y hx hy
        have hlt := (List.getElem?_eq_some_iff.1 hy).1
        obtain ⟨z, hz⟩ : ∃ z, q[i + d + 1]? = some z := ⟨_, List.getElem?_eq_getElem (by omega)⟩
        exact (ih i x z hx hz).trans (hst (i + d + 1) z y hz hy)
    refine ⟨?_, fun w hw => ?_⟩
    · rw [List.pairwise_iff_getElem]
      intro i j hi hj hij
      exact hfar (j - i - 1) i _ _ (List.getElem?_eq_getElem hi) (by rw [show i + (j - i - 1) + 1 = j by omega]; exact List.getElem?_eq_getElem hj)
    · obtain ⟨i, hi, rfl⟩ := List.getElem_of_mem hw
      have h1 := hs i _ (List.getElem?_eq_getElem hi)
      unfold stepM at h1
      rw [Bool.and_eq_true] at h1
      simpa using h1.1
  · rintro ⟨h1, h2⟩ i hi
    rw [List.pairwise_iff_getElem] at h1
    simp at hi
    rw [List.getElem?_eq_getElem hi]
    show stepM q i q[i] = true
    unfold stepM
    rw [h2 _ (List.getElem_mem hi), Bool.not_false, Bool.true_and]
    cases i with
    | zero => rfl
    | succ i =>
      simp only
      rw [List.getElem?_eq_getElem (by omega)]
      exact (befB_iff _ _).2 (h1 i (i + 1) (by omega) hi (by omega))
/- Something in a queue. -/
def hasW (q : List Wt) (w : Wt) : Bool := q.any fun x => Wt.same x w
theorem hasW_iff (q : List Wt) (w : Wt) : hasW q w = true ↔ w ∈ q := by
  unfold hasW
  rw [List.any_eq_true]
  constructor
  · rintro ⟨x, hx, h⟩
    rw [Wt.same_iff] at h
    subst h
    exact hx
  · exact fun h => ⟨w, h, (Wt.same_iff _ _).2 rfl⟩
theorem hasP_next (p : Pl) (q : List Wt) (j : Nat) (x : Wt) (h : q[j]? = some x) : hasP p (q.take (j + 1)) = (hasP p (q.take j) || Pl.same x.p p) := by
  unfold hasP
  rw [List.take_add_one, h, List.any_append]
  simp

end Go.Proofs.Ytmnpbjaofemelaa
