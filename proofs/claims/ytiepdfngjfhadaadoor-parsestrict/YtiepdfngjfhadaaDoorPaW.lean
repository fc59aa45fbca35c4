/-
  Requests as words: the words of bytes, those of a call; when bytes are the request of a call, told by their words.
  No condition.
-/
import Derived.Test.YtiepdfngjfhadaaDoorPaM
namespace Go.Proofs.YtiepdfngjfhadaaDoor
set_option maxRecDepth 10000
open Go.RowKit Go.Sort
set_option linter.unusedVariables false
set_option linter.unusedSimpArgs false

/- Bytes up to their first blank, what stands behind it, and whether there is one. -/
def cutL : List UInt8 → List UInt8 × List UInt8 × Bool
  | [] => ([], [], false)
  | b :: r => if b = 32 then ([], r, true) else (b :: (cutL r).1, (cutL r).2.1, (cutL r).2.2)
theorem cutL_hit : ∀ {a r : List UInt8}, (32 : UInt8) ∉ a → cutL (a ++ 32 :: r) = (a, r, true)
  | [], r, _ => by simp [cutL]
  | b :: a, r, h => by
    have hb : b ≠ 32 := fun e => h (by simp [e])
    have ha : (32 : UInt8) ∉ a := fun e => h (by simp [e])
    rw [List.cons_append, cutL, if_neg hb, cutL_hit ha]
theorem cutL_none : ∀ {a : List UInt8}, (32 : UInt8) ∉ a → cutL a = (a, [], false)
  | [], _ => rfl
  | b :: a, h => by
    have hb : b ≠ 32 := fun e => h (by simp [e])
    have ha : (32 : UInt8) ∉ a := fun e => h (by simp [e])
    rw [cutL, if_neg hb, cutL_none ha]
theorem cutL_is : ∀ s : List UInt8, (32 : UInt8) ∉ (cutL s).1 ∧ s = (cutL s).1 ++ (if (cutL s).2.2 = true then 32 :: (cutL s).2.1 else []) ∧ ((cutL s).2.2 = false → (cutL s).2.1 = [])
  | [] => by simp [cutL]
  | b :: r => by
    obtain ⟨h1, h2, h3⟩ := cutL_is r
    by_cases hb : b = 32
    · simp [cutL, hb]
    · rw [cutL, if_neg hb]
      refine ⟨?_, ?_, h3⟩
      · simp only [List.mem_cons, not_or]
        exact ⟨fun e => hb e.symm, h1⟩
      · simp only [List.cons_append]
        rw [← h2]
theorem cutL_len (s : List UInt8) : (cutL s).1.length ≤ s.length ∧ (cutL s).2.1.length ≤ s.length := by
  obtain ⟨_, h2, h3⟩ := cutL_is s
  have h := congrArg List.length h2
  rw [List.length_append] at h
  cases hm : (cutL s).2.2
  · rw [h3 hm]
    rw [hm] at h
    simp at h ⊢
    omega
  · rw [hm] at h
    simp at h
    omega
/- At most k + 1 words; the last one is all that is left. -/
def wordsL : Nat → List UInt8 → List (List UInt8)
  | 0, s => [s]
  | k + 1, s => (cutL s).1 :: (if (cutL s).2.2 = true then wordsL k (cutL s).2.1 else [])
theorem wordsL_cons {k : Nat} {a r : List UInt8} (h : (32 : UInt8) ∉ a) : wordsL (k + 1) (a ++ 32 :: r) = a :: wordsL k r := by
  rw [wordsL, cutL_hit h]
  rfl
theorem wordsL_one {k : Nat} {a : List UInt8} (h : (32 : UInt8) ∉ a) : wordsL k a = [a] := by
  cases k with
  | zero => rfl
  | succ k => rw [wordsL, cutL_none h]; rfl
theorem wordsL_head (k : Nat) (s : List UInt8) : ∃ R, wordsL (k + 1) s = (cutL s).1 :: R := ⟨_, rfl⟩
def joinL : List (List UInt8) → List UInt8
  | [] => []
  | [a] => a
  | a :: b :: r => a ++ 32 :: joinL (b :: r)
theorem wordsL_ne (k : Nat) (s : List UInt8) : ∃ a R, wordsL k s = a :: R := by
  cases k with
  | zero => exact ⟨_, _, rfl⟩
  | succ k => exact ⟨_, _, rfl⟩
theorem joinL_words : ∀ (k : Nat) (s : List UInt8), joinL (wordsL k s) = s
  | 0, s => rfl
  | k + 1, s => by
    obtain ⟨h1, h2, h3⟩ := cutL_is s
    rw [wordsL]
    cases hm : (cutL s).2.2
    · rw [hm] at h2
      simp at h2
      rw [if_neg (by simp)]
      exact h2.symm
    · rw [if_pos rfl]
      rw [hm, if_pos rfl] at h2
      obtain ⟨a, R, hw⟩ := wordsL_ne k (cutL s).2.1
      have ih := joinL_words k (cutL s).2.1
      rw [hw] at ih ⊢
      rw [joinL, ih]
      exact h2.symm
/- The words of a call's request. -/
def wordsC (c : Ca) : List (List UInt8) :=
  if c.d = 0 then [kindW 0] else if c.d = 1 then [kindW 1, digs c.h] else if c.d = 2 then [kindW 2, digs c.h, sgns c.g] else if c.d = 3 then [kindW 3, digs c.h, digs c.o]
  else if c.d = 4 then [kindW 4, digs c.h, sgns c.gr] else if c.d = 5 then [kindW 5, digs c.h, sgns c.gr] else [kindW 6, digs c.h, sgns c.gr, servW c.sv.toNat, 61 :: bL c.t]
def manyC (d : Nat) : Nat := match d with | 0 => 1 | 1 => 2 | 6 => 5 | _ => 3
theorem join_wordsC {c : Ca} (h : MayC c) : joinL (wordsC c) = printL c := by
  rcases h with ⟨q, ha⟩ | ⟨q, ha⟩ | ⟨q, a1, a2, ha⟩ | ⟨q, ha⟩ | ⟨q, a1, a2, ha⟩ | ⟨q, a1, a2, ha⟩ | ⟨q, a1, a2, a3, a4, a5, ha⟩
  all_goals simp [wordsC, printL, behC, q, joinL, kindW]
theorem sg32 (k : Int) : (32 : UInt8) ∉ sgns k := sgns_no d32 (by decide) k
theorem words_print {c : Ca} (h : MayC c) : wordsL 4 (printL c) = wordsC c := by
  rcases h with ⟨q, ha⟩ | ⟨q, ha⟩ | ⟨q, a1, a2, ha⟩ | ⟨q, ha⟩ | ⟨q, a1, a2, ha⟩ | ⟨q, a1, a2, ha⟩ | ⟨q, a1, a2, a3, a4, a5, ha⟩
  · simp only [wordsC, printL, behC, q]
    exact wordsL_one (kindW_no 0)
  · simp only [wordsC, printL, behC, q]
    exact (wordsL_cons (kindW_no 1)).trans (by rw [wordsL_one (by simpa using digs_no d32 _)]; simp)
  · simp only [wordsC, printL, behC, q]
    refine (wordsL_cons (kindW_no 2)).trans ?_
    exact congrArg _ ((wordsL_cons (digs_no d32 _)).trans (congrArg _ (wordsL_one (sg32 _))))
  · simp only [wordsC, printL, behC, q]
    refine (wordsL_cons (kindW_no 3)).trans ?_
    exact congrArg _ ((wordsL_cons (digs_no d32 _)).trans (congrArg _ (wordsL_one (digs_no d32 _))))
  · simp only [wordsC, printL, behC, q]
    refine (wordsL_cons (kindW_no 4)).trans ?_
    refine congrArg _ ((wordsL_cons (digs_no d32 _)).trans (congrArg _ ?_))
    exact wordsL_one (by simpa using sg32 _)|>.trans (by simp)
  · simp only [wordsC, printL, behC, q]
    refine (wordsL_cons (kindW_no 5)).trans ?_
    refine congrArg _ ((wordsL_cons (digs_no d32 _)).trans (congrArg _ ?_))
    exact wordsL_one (by simpa using sg32 _)|>.trans (by simp)
  · simp only [wordsC, printL, behC, q]
    refine (wordsL_cons (kindW_no 6)).trans ?_
    refine congrArg _ ((wordsL_cons (digs_no d32 _)).trans (congrArg _ ?_))
    refine (wordsL_cons (sg32 _)).trans (congrArg _ ?_)
    refine (wordsL_cons (servW_no _)).trans (congrArg _ ?_)
    rfl
theorem print_iff {c : Ca} (h : MayC c) (s : List UInt8) : printL c = s ↔ wordsC c = wordsL 4 s := by
  constructor
  · rintro rfl
    exact (words_print h).symm
  · intro e
    rw [← join_wordsC h, e, joinL_words]

def Fits (c : Ca) : Prop := c.h < 18446744073709551616 ∧ c.o < 18446744073709551616
/- Which call's request has just these words. -/
def IsW (L : List (List UInt8)) (o : Option Ca) : Prop := match o with | some c => MayC c ∧ Fits c ∧ wordsC c = L | none => ∀ c, MayC c → Fits c → wordsC c ≠ L
theorem IsCall_of {s : List UInt8} {o : Option Ca} (h : IsW (wordsL 4 s) o) : IsCall s o := by
  cases o with
  | none => exact fun c hm h1 h2 e => h c hm ⟨h1, h2⟩ ((print_iff hm s).1 e)
  | some c => exact ⟨h.1, h.2.1.1, h.2.1.2, (print_iff h.1 s).2 h.2.2⟩
theorem IsCall.words {s : List UInt8} {c : Ca} (h : IsCall s (some c)) : wordsL 4 s = wordsC c := ((print_iff h.1 s).1 h.2.2.2).symm
theorem wordsC_head {c : Ca} (h : MayC c) : ∃ R, wordsC c = kindW c.d.toNat :: R ∧ R.length + 1 = manyC c.d.toNat := by
  rcases h with ⟨q, ha⟩ | ⟨q, ha⟩ | ⟨q, a1, a2, ha⟩ | ⟨q, ha⟩ | ⟨q, a1, a2, ha⟩ | ⟨q, a1, a2, ha⟩ | ⟨q, a1, a2, a3, a4, a5, ha⟩
  all_goals exact ⟨_, by simp only [wordsC, q]; rfl, by simp only [q]; rfl⟩
/- What a number's word is. -/
def NumO (w : List UInt8) (o : Option Nat) : Prop := match o with | some n => n < 18446744073709551616 ∧ digs n = w | none => ∀ n, n < 18446744073709551616 → digs n ≠ w
theorem w_kind {w : List UInt8} {R : List (List UInt8)} (h : ∀ d, d ≤ 6 → kindW d ≠ w) : IsW (w :: R) none := by
  intro c hm _ e
  obtain ⟨R', h1, _⟩ := wordsC_head hm
  have := hm.range
  rw [h1] at e
  exact h _ (by omega) (List.cons.inj e).1
theorem w_same {c : Ca} (hm : MayC c) {d : Nat} (hd : d ≤ 6) {R : List (List UInt8)} (e : wordsC c = kindW d :: R) : c.d = d ∧ R.length + 1 = manyC d := by
  obtain ⟨R', h1, h2⟩ := wordsC_head hm
  have := hm.range
  rw [h1] at e
  obtain ⟨e1, e2⟩ := List.cons.inj e
  have := kindW_inj (by omega) hd e1
  subst e2
  exact ⟨by omega, by rw [← this]; exact h2⟩
theorem w_len {d : Nat} (hd : d ≤ 6) {R : List (List UInt8)} (h : R.length + 1 ≠ manyC d) : IsW (kindW d :: R) none := fun c hm _ e => h (w_same hm hd e).2
theorem w_num {d : Nat} (hd : d ≤ 6) (h1 : 1 ≤ d) {w : List UInt8} {R : List (List UInt8)} (h : NumO w none) : IsW (kindW d :: w :: R) none := by
  intro c hm hf e
  obtain ⟨hc, _⟩ := w_same hm hd e
  have h2 : wordsC c = kindW d :: digs c.h :: (wordsC c).tail.tail := by
    have : d = 1 ∨ d = 2 ∨ d = 3 ∨ d = 4 ∨ d = 5 ∨ d = 6 := by omega
    rcases this with rfl | rfl | rfl | rfl | rfl | rfl
    all_goals simp only [wordsC, hc]; rfl
  rw [h2] at e
  exact h _ hf.1 (List.cons.inj (List.cons.inj e).2).1
theorem sgns_nat (n : Nat) : sgns (n : Int) = digs n := by
  unfold sgns
  rw [if_neg (by omega)]
  rfl
theorem sgns_of {k : Int} (h : 0 ≤ k) : sgns k = digs k.toNat := by
  obtain ⟨n, rfl⟩ : ∃ n : Nat, k = n := ⟨k.toNat, by omega⟩
  rw [sgns_nat]
  rfl
theorem w_give {w1 w2 : List UInt8} {R : List (List UInt8)} (h : ∀ n, 1 ≤ n → n ≤ 7 → digs n ≠ w2) : IsW (kindW 2 :: w1 :: w2 :: R) none := by
  intro c hm hf e
  obtain ⟨hc, _⟩ := w_same hm (by omega) e
  have hg : 1 ≤ c.g ∧ c.g ≤ 7 := by
    rcases hm with k | k | k | k | k | k | k <;> omega
  simp only [wordsC, hc] at e
  have e2 := (List.cons.inj (List.cons.inj (List.cons.inj e).2).2).1
  rw [sgns_of (by omega)] at e2
  exact h _ (by omega) (by omega) e2
theorem w_oth {w1 w2 : List UInt8} {R : List (List UInt8)} (h : NumO w2 none) : IsW (kindW 3 :: w1 :: w2 :: R) none := by
  intro c hm hf e
  obtain ⟨hc, _⟩ := w_same hm (by omega) e
  simp only [wordsC, hc] at e
  exact h _ hf.2 (List.cons.inj (List.cons.inj (List.cons.inj e).2).2).1
theorem w_grp {d : Nat} (h4 : 4 ≤ d) (hd : d ≤ 6) {w1 w2 : List UInt8} {R : List (List UInt8)} (h : ∀ n, n ≤ 7 → digs n ≠ w2) : IsW (kindW d :: w1 :: w2 :: R) none := by
  intro c hm hf e
  obtain ⟨hc, _⟩ := w_same hm hd e
  have hg : 0 ≤ c.gr ∧ c.gr ≤ 7 := by
    rcases hm with k | k | k | k | k | k | k <;> omega
  have h2 : wordsC c = kindW d :: digs c.h :: sgns c.gr :: (wordsC c).tail.tail.tail := by
    have : d = 4 ∨ d = 5 ∨ d = 6 := by omega
    rcases this with rfl | rfl | rfl
    all_goals simp only [wordsC, hc]; rfl
  rw [h2] at e
  have e2 := (List.cons.inj (List.cons.inj (List.cons.inj e).2).2).1
  rw [sgns_of (by omega)] at e2
  exact h _ (by omega) e2
theorem w_srv {w1 w2 w3 : List UInt8} {R : List (List UInt8)} (h : ∀ k, k ≤ 3 → servW k ≠ w3) : IsW (kindW 6 :: w1 :: w2 :: w3 :: R) none := by
  intro c hm hf e
  obtain ⟨hc, _⟩ := w_same hm (by omega) e
  have hg : 0 ≤ c.sv ∧ c.sv ≤ 3 := by
    rcases hm with k | k | k | k | k | k | k <;> omega
  simp only [wordsC, hc] at e
  exact h _ (by omega) (List.cons.inj (List.cons.inj (List.cons.inj (List.cons.inj e).2).2).2).1
theorem w_txt {w1 w2 w3 w4 : List UInt8} {R : List (List UInt8)} (h : ∀ t : ByteArray, t.size ≤ 16 → 61 :: bL t ≠ w4) : IsW (kindW 6 :: w1 :: w2 :: w3 :: w4 :: R) none := by
  intro c hm hf e
  obtain ⟨hc, _⟩ := w_same hm (by omega) e
  have hg : c.t.size ≤ 16 := by
    rcases hm with k | k | k | k | k | k | k
    all_goals first | omega
  simp only [wordsC, hc] at e
  exact h _ hg (List.cons.inj (List.cons.inj (List.cons.inj (List.cons.inj (List.cons.inj e).2).2).2).2).1
/- The calls, by their words. -/
theorem w_ok0 : IsW [kindW 0] (some ⟨0, 0, 0, 0, 0, 0, noT⟩) := ⟨.inl ⟨rfl, rfl⟩, ⟨by decide, by decide⟩, rfl⟩
theorem w_ok1 {w : List UInt8} {n : Nat} (h : NumO w (some n)) : IsW [kindW 1, w] (some ⟨1, n, 0, 0, 0, 0, noT⟩) := ⟨.inr (.inl ⟨rfl, rfl⟩), ⟨h.1, by show (0 : Nat) < _; decide⟩, by rw [← h.2]; rfl⟩
theorem w_ok2 {w v : List UInt8} {n g : Nat} (h : NumO w (some n)) (h1 : 1 ≤ g) (h7 : g ≤ 7) (hv : digs g = v) : IsW [kindW 2, w, v] (some ⟨2, n, 0, g, 0, 0, noT⟩) :=
  ⟨.inr (.inr (.inl ⟨rfl, by show (1 : Int) ≤ (g : Int); omega, by show (g : Int) ≤ 7; omega, rfl⟩)), ⟨h.1, by show (0 : Nat) < _; decide⟩, by rw [← h.2, ← hv, ← sgns_nat]; rfl⟩
theorem w_ok3 {w v : List UInt8} {n m : Nat} (h : NumO w (some n)) (hv : NumO v (some m)) : IsW [kindW 3, w, v] (some ⟨3, n, m, 0, 0, 0, noT⟩) :=
  ⟨.inr (.inr (.inr (.inl ⟨rfl, rfl⟩))), ⟨h.1, hv.1⟩, by rw [← h.2, ← hv.2]; rfl⟩
theorem w_ok4 {w v : List UInt8} {n g : Nat} (h : NumO w (some n)) (h7 : g ≤ 7) (hv : digs g = v) : IsW [kindW 4, w, v] (some ⟨4, n, 0, 0, g, 0, noT⟩) :=
  ⟨.inr (.inr (.inr (.inr (.inl ⟨rfl, by show (0 : Int) ≤ (g : Int); omega, by show (g : Int) ≤ 7; omega, rfl⟩)))), ⟨h.1, by show (0 : Nat) < _; decide⟩, by rw [← h.2, ← hv, ← sgns_nat]; rfl⟩
theorem w_ok5 {w v : List UInt8} {n g : Nat} (h : NumO w (some n)) (h7 : g ≤ 7) (hv : digs g = v) : IsW [kindW 5, w, v] (some ⟨5, n, 0, 0, g, 0, noT⟩) :=
  ⟨.inr (.inr (.inr (.inr (.inr (.inl ⟨rfl, by show (0 : Int) ≤ (g : Int); omega, by show (g : Int) ≤ 7; omega, rfl⟩))))), ⟨h.1, by show (0 : Nat) < _; decide⟩, by rw [← h.2, ← hv, ← sgns_nat]; rfl⟩
theorem w_ok6 {w v u x : List UInt8} {n g k : Nat} {t : ByteArray} (h : NumO w (some n)) (h7 : g ≤ 7) (hv : digs g = v) (h3 : k ≤ 3) (hu : servW k = u) (ht : t.size ≤ 16) (hx : 61 :: bL t = x) : IsW [kindW 6, w, v, u, x] (some ⟨6, n, 0, 0, g, k, t⟩) :=
  ⟨.inr (.inr (.inr (.inr (.inr (.inr ⟨rfl, by show (0 : Int) ≤ (g : Int); omega, by show (g : Int) ≤ 7; omega, by show (0 : Int) ≤ (k : Int); omega, by show (k : Int) ≤ 3; omega, ht, rfl⟩))))), ⟨h.1, by show (0 : Nat) < _; decide⟩, by rw [← h.2, ← hv, ← hu, ← hx, ← sgns_nat]; rfl⟩
/- May, as a Bool; the request, or nothing. -/
def mayC (c : Ca) : Bool := (decide (c.d = 0) && Ca.same c ⟨0, 0, 0, 0, 0, 0, noT⟩) || (decide (c.d = 1) && Ca.same c ⟨1, c.h, 0, 0, 0, 0, noT⟩) || (decide (c.d = 2) && decide (1 ≤ c.g) && decide (c.g ≤ 7) && Ca.same c ⟨2, c.h, 0, c.g, 0, 0, noT⟩) || (decide (c.d = 3) && Ca.same c ⟨3, c.h, c.o, 0, 0, 0, noT⟩) ||
  (decide (c.d = 4) && decide (0 ≤ c.gr) && decide (c.gr ≤ 7) && Ca.same c ⟨4, c.h, 0, 0, c.gr, 0, noT⟩) || (decide (c.d = 5) && decide (0 ≤ c.gr) && decide (c.gr ≤ 7) && Ca.same c ⟨5, c.h, 0, 0, c.gr, 0, noT⟩) ||
  (decide (c.d = 6) && decide (0 ≤ c.gr) && decide (c.gr ≤ 7) && decide (0 ≤ c.sv) && decide (c.sv ≤ 3) && decide (c.t.size ≤ 16) && Ca.same c ⟨6, c.h, 0, 0, c.gr, c.sv, c.t⟩)
theorem mayC_iff (c : Ca) : mayC c = true ↔ MayC c := by
  unfold mayC MayC
  simp only [Bool.or_eq_true, Bool.and_eq_true, decide_eq_true_eq, Ca.same_iff, or_assoc, and_assoc]
def outC (c : Ca) : List UInt8 := if mayC c = true then printL c else []
theorem printL_ne (c : Ca) : printL c ≠ [] := by
  unfold printL
  have : kindW c.d.toNat ≠ [] := by unfold kindW; split <;> decide
  simp [this]
theorem outC_iff (c : Ca) : outC c = [] ↔ mayC c = false := by
  unfold outC
  cases mayC c <;> simp [printL_ne]
/- A text's call is the one that it is the request of. -/
theorem isCall_out {c : Ca} (hf : Fits c) (hm : mayC c = true) : IsCall (outC c) (some c) := by
  unfold outC
  rw [if_pos hm]
  exact ⟨(mayC_iff c).1 hm, hf.1, hf.2, rfl⟩
theorem isCall_back {s : List UInt8} {c : Ca} (h : IsCall s (some c)) : mayC c = true ∧ outC c = s := by
  have hm := (mayC_iff c).2 h.1
  refine ⟨hm, ?_⟩
  unfold outC
  rw [if_pos hm]
  exact h.2.2.2
theorem isCall_nil : IsCall [] none := by
  intro c _ _ _ e
  exact printL_ne c e

end Go.Proofs.YtiepdfngjfhadaaDoor
