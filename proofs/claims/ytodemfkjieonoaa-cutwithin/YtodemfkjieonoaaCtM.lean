/-
  What some have received, together, and what is missing of it: plain answers, and what follows of them.
  No condition.
-/
import Derived.Test.YtodemfkjieonoaaRdM
namespace Go.Proofs.Ytodemfkjieonoaa
set_option maxRecDepth 10000
open Go.RowKit Go.Sort

/- The greatest counts of all. -/
def maxC (a b : Nat → Nat) : Nat → Nat := fun i => max (a i) (b i)
def unionL (L : List (Nat → Nat)) : Nat → Nat := L.foldl maxC noMb
theorem unionL_take (L : List (Nat → Nat)) (j : Nat) (c : Nat → Nat) (h : L[j]? = some c) : unionL (L.take (j + 1)) = maxC (unionL (L.take j)) c := by
  rw [List.take_add_one, h]
  simp [unionL, List.foldl_append]
def maxTo (u c : Nat → Nat) (j : Nat) : Nat → Nat := fun i => if i < j then max (u i) (c i) else u i
theorem maxTo_zero (u c : Nat → Nat) : maxTo u c 0 = u := by funext i; simp [maxTo]
theorem maxTo_at (u c : Nat → Nat) (j : Nat) : maxTo u c j j = u j := by simp [maxTo]
theorem maxTo_full (u c : Nat → Nat) : mbc (maxTo u c 8) = mbc (maxC u c) := mbc_ext fun i hi => by simp [maxTo, maxC, hi]
theorem maxTo_set (u c : Nat → Nat) (j : Nat) (h : j < 8) (v : Nat) (hv : v = max (u j) (c j)) : (mbc (maxTo u c j)).setIfInBounds j (.int .u32 (v : Int)) = mbc (maxTo u c (j + 1)) := by
  rw [mbc_set _ j v h]
  refine mbc_ext fun i _ => ?_
  simp only [maxTo]
  by_cases e : i = j
  · subst e
    rw [if_pos rfl, if_pos (by omega), hv]
  · by_cases l : i < j
    · simp [e, l, show i < j + 1 by omega]
    · simp [e, l, show ¬ i < j + 1 by omega]
theorem maxTo_skip (u c : Nat → Nat) (j : Nat) (hv : c j ≤ u j) : mbc (maxTo u c j) = mbc (maxTo u c (j + 1)) := by
  refine mbc_ext fun i _ => ?_
  simp only [maxTo]
  by_cases e : i = j
  · subst e
    rw [if_neg (by omega), if_pos (by omega), Nat.max_eq_left hv]
  · by_cases l : i < j
    · simp [l, show i < j + 1 by omega]
    · simp [l, show ¬ i < j + 1 by omega]

def withTo (a b : Nat → Nat) (j : Nat) : Bool := (List.range j).all fun i => decide (a i ≤ b i)
def withB (a b : Nat → Nat) : Bool := withTo a b 8
theorem withTo_zero (a b : Nat → Nat) : withTo a b 0 = true := rfl
theorem withTo_iff (a b : Nat → Nat) (j : Nat) : withTo a b j = true ↔ ∀ i, i < j → a i ≤ b i := by simp [withTo, List.all_eq_true]
theorem withTo_step (a b : Nat → Nat) (j : Nat) (h : withTo a b j = true) (hj : a j ≤ b j) : withTo a b (j + 1) = true := by
  rw [withTo_iff] at *
  intro i hi
  by_cases e : i = j
  · rw [e]; exact hj
  · exact h i (by omega)
theorem withB_iff (a b : Nat → Nat) : withB a b = true ↔ ∀ i, i < 8 → a i ≤ b i := withTo_iff a b 8
theorem withB_not (a b : Nat → Nat) (j : Nat) (hj : j < 8) (h : ¬ a j ≤ b j) : withB a b = false := by
  rw [Bool.eq_false_iff]
  intro hw
  exact h ((withB_iff a b).1 hw j hj)

/- The best one of some that there may be. -/
def better (o : Option Pl) (p : Pl) : Option Pl :=
  match o with
  | none => some p
  | some b => if befB p b = true then some p else some b
def bestS (P : Nat → Option Pl) (o : Option Pl) (d : Nat) : Option Pl :=
  match P d with
  | none => o
  | some p => better o p
def bestL (P : Nat → Option Pl) (L : List Nat) : Option Pl := L.foldl (bestS P) none
theorem bestL_take (P : Nat → Option Pl) (L : List Nat) (j d : Nat) (h : L[j]? = some d) : bestL P (L.take (j + 1)) = bestS P (bestL P (L.take j)) d := by
  rw [List.take_add_one, h]
  simp [bestL, List.foldl_append]
theorem bestL_snoc (P : Nat → Option Pl) (L : List Nat) (d : Nat) : bestL P (L ++ [d]) = bestS P (bestL P L) d := by simp [bestL, List.foldl_append]
theorem bestL_congr (P Q : Nat → Option Pl) (L : List Nat) (h : ∀ d ∈ L, P d = Q d) : bestL P L = bestL Q L := by
  have key : ∀ (L : List Nat) (o : Option Pl), (∀ d ∈ L, P d = Q d) → L.foldl (bestS P) o = L.foldl (bestS Q) o := by
    intro L
    induction L with
    | nil => intro o _; rfl
    | cons d l ih =>
      intro o h
      have e : bestS P o d = bestS Q o d := by simp only [bestS, h d (by simp)]
      simp only [List.foldl_cons, e]
      exact ih _ fun d hd => h d (by simp [hd])
  exact key L none h
theorem bef_no (a b : Pl) : befB a b = false ↔ ¬ (a.r < b.r ∨ a.r = b.r ∧ (a.f < b.f ∨ a.f = b.f ∧ a.s < b.s)) := by simp only [befB, decide_eq_false_iff_not]
theorem bef_yes (a b : Pl) : befB a b = true ↔ (a.r < b.r ∨ a.r = b.r ∧ (a.f < b.f ∨ a.f = b.f ∧ a.s < b.s)) := by simp only [befB, decide_eq_true_iff]
theorem rev_ind {P : List Nat → Prop} (h0 : P []) (h1 : ∀ l d, P l → P (l ++ [d])) (L : List Nat) : P L := by
  have key : ∀ n (L : List Nat), L.length = n → P L := by
    intro n
    induction n with
    | zero => intro L hL; rw [List.length_eq_zero_iff.1 hL]; exact h0
    | succ n ih =>
      intro L hL
      have hne : L ≠ [] := by intro h; rw [h] at hL; simp at hL
      rw [← List.dropLast_concat_getLast hne]
      exact h1 _ _ (ih _ (by rw [List.length_dropLast]; omega))
  exact key _ L rfl
theorem bestL_spec (P : Nat → Option Pl) (L : List Nat) :
    (bestL P L = none → ∀ d ∈ L, P d = none) ∧ (∀ p, bestL P L = some p → (∃ d ∈ L, P d = some p) ∧ ∀ d ∈ L, ∀ q, P d = some q → befB q p = false) := by
  refine rev_ind (P := fun L => (bestL P L = none → ∀ d ∈ L, P d = none) ∧ (∀ p, bestL P L = some p → (∃ d ∈ L, P d = some p) ∧ ∀ d ∈ L, ∀ q, P d = some q → befB q p = false)) ?_ ?_ L
  · exact ⟨fun _ d hd => (by cases hd), fun p h => (by cases h)⟩
  · rintro l d ⟨h1, h2⟩
    rw [bestL_snoc]
    cases hb : bestL P l with
    | none =>
      have hn := h1 hb
      cases hd : P d with
      | none =>
        refine ⟨fun _ e he => ?_, fun p h => ?_⟩
        · rcases List.mem_append.1 he with he | he
          · exact hn e he
          · simp at he; rw [he]; exact hd
        · simp only [bestS, hd] at h; cases h
      | some q =>
        refine ⟨fun h => ?_, fun p h => ?_⟩
        · simp only [bestS, hd, better] at h; cases h
        · simp only [bestS, hd, better] at h
          cases h
          refine ⟨⟨d, by simp, hd⟩, fun e he q' hq' => ?_⟩
          rcases List.mem_append.1 he with he | he
          · rw [hn e he] at hq'; cases hq'
          · simp at he
            rw [he, hd] at hq'
            cases hq'
            rw [bef_no]
            omega
    | some b =>
      obtain ⟨⟨e0, he0, hP0⟩, hmin⟩ := h2 b hb
      cases hd : P d with
      | none =>
        refine ⟨fun h => ?_, fun p h => ?_⟩
        · simp only [bestS, hd] at h; cases h
        · simp only [bestS, hd] at h
          cases h
          refine ⟨⟨e0, by simp [he0], hP0⟩, fun e he q' hq' => ?_⟩
          rcases List.mem_append.1 he with he | he
          · exact hmin e he q' hq'
          · simp at he
            rw [he, hd] at hq'
            cases hq'
      | some q =>
        by_cases hlt : befB q b = true
        · refine ⟨fun h => ?_, fun p h => ?_⟩
          · simp only [bestS, hd, better, hlt, if_true] at h; cases h
          · simp only [bestS, hd, better, hlt, if_true] at h
            cases h
            refine ⟨⟨d, by simp, hd⟩, fun e he q' hq' => ?_⟩
            rcases List.mem_append.1 he with he | he
            · have := hmin e he q' hq'
              rw [bef_no] at this ⊢
              rw [bef_yes] at hlt
              omega
            · simp at he
              rw [he, hd] at hq'
              cases hq'
              rw [bef_no]
              omega
        · have hlt' : befB q b = false := by simpa using hlt
          refine ⟨fun h => ?_, fun p h => ?_⟩
          · simp only [bestS, hd, better, hlt'] at h; simp at h
          · simp only [bestS, hd, better, hlt'] at h
            simp at h
            subst h
            refine ⟨⟨e0, by simp [he0], hP0⟩, fun e he q' hq' => ?_⟩
            rcases List.mem_append.1 he with he | he
            · exact hmin e he q' hq'
            · simp at he
              rw [he, hd] at hq'
              cases hq'
              exact hlt'

/- What is missing first; what is missing. -/
def candC (c most : Nat → Nat) (d : Nat) : Option Pl := if c d < most d then some ⟨c d + 1, (d : Int), 0⟩ else none
def fstM (c most m : Nat → Nat) : Option Pl := bestL (candC c most) (lst m)
def putC (c : Nat → Nat) (d v : Nat) : Nat → Nat := fun i => if i = d then v else c i
def missL (most m : Nat → Nat) : Nat → (Nat → Nat) → List Pl
  | 0, _ => []
  | n + 1, c =>
    match fstM c most m with
    | none => []
    | some p => p :: missL most m n (putC c p.f.toNat p.r)
theorem missL_none (most m : Nat → Nat) (n : Nat) (c : Nat → Nat) (h : fstM c most m = none) : missL most m n c = [] := by
  cases n with
  | zero => rfl
  | succ n => simp only [missL, h]
theorem missL_some (most m : Nat → Nat) (n : Nat) (c : Nat → Nat) (p : Pl) (h : fstM c most m = some p) : missL most m (n + 1) c = p :: missL most m n (putC c p.f.toNat p.r) := by simp only [missL, h]
theorem missL_len (most m : Nat → Nat) : ∀ (n : Nat) (c : Nat → Nat), (missL most m n c).length ≤ n
  | 0, _ => Nat.le_refl _
  | n + 1, c => by
    cases h : fstM c most m with
    | none => rw [missL_none _ _ _ _ h]; simp
    | some p => rw [missL_some _ _ _ _ _ h]; simp [missL_len most m n]
theorem fstM_none (c most m : Nat → Nat) (h : fstM c most m = none) (d : Nat) (hd : d ∈ lst m) : most d ≤ c d := by
  have := (bestL_spec (candC c most) (lst m)).1 h d hd
  unfold candC at this
  split at this
  · cases this
  · omega
theorem fstM_some (c most m : Nat → Nat) (p : Pl) (h : fstM c most m = some p) : ∃ d, d ∈ lst m ∧ d < 8 ∧ c d < most d ∧ p = ⟨c d + 1, (d : Int), 0⟩ ∧ ∀ e ∈ lst m, c e < most e → befB ⟨c e + 1, (e : Int), 0⟩ p = false := by
  obtain ⟨⟨d, hd, hp⟩, hmin⟩ := (bestL_spec (candC c most) (lst m)).2 p h
  unfold candC at hp
  split at hp
  · rename_i hlt
    refine ⟨d, hd, ((mem_lst m d).1 hd).1, hlt, (by injection hp with hp; exact hp.symm), fun e he hle => hmin e he _ (by unfold candC; rw [if_pos hle])⟩
  · cases hp

/- What the document says comes next. -/
def goneB (g : Pl) (s : Bool) (q : Pl) : Bool := befB q g || (Pl.same q g && !s)
def r0R (g : Pl) (low : Nat → Nat) (d : Nat) : Nat := if g.r ≤ low d then low d + 1 else g.r
def refR (g : Pl) (s : Bool) (low most : Nat → Nat) (d : Nat) : Nat := if r0R g low d ≤ most d ∧ goneB g s ⟨r0R g low d, (d : Int), 0⟩ = true then r0R g low d + 1 else r0R g low d
def candR (g : Pl) (s : Bool) (low most : Nat → Nat) (d : Nat) : Option Pl := if refR g s low most d ≤ most d then some ⟨refR g s low most d, (d : Int), 0⟩ else none
def nextR (g : Pl) (s : Bool) (low most m : Nat → Nat) : Option Pl := bestL (candR g s low most) (lst m)
def fromL (low most m : Nat → Nat) : Nat → Option Pl → List Pl
  | 0, _ => []
  | _ + 1, none => []
  | n + 1, some p => p :: fromL low most m n (nextR p false low most m)

theorem gone_iff (g : Pl) (s : Bool) (r d : Nat) : goneB g s ⟨r, (d : Int), 0⟩ = true ↔ (r < g.r ∨ r = g.r ∧ ((d : Int) < g.f ∨ (d : Int) = g.f ∧ 0 < g.s)) ∨ (s = false ∧ r = g.r ∧ (d : Int) = g.f ∧ 0 = g.s) := by
  simp only [goneB, Bool.or_eq_true, Bool.and_eq_true, bef_yes, Pl.same, decide_eq_true_iff]
  cases s <;> simp
theorem gone_next (g : Pl) (s : Bool) (low : Nat → Nat) (d : Nat) : goneB g s ⟨r0R g low d + 1, (d : Int), 0⟩ = false := by
  rw [Bool.eq_false_iff, ne_eq, gone_iff]
  have : g.r ≤ r0R g low d := by unfold r0R; split <;> omega
  omega

/- How far one is, told by counts and told by a place. -/
def Jv (c low most : Nat → Nat) (L : List Nat) (g : Pl) (s : Bool) : Prop := ∀ d ∈ L, low d ≤ c d ∧ ∀ r, low d < r → r ≤ most d → (r ≤ c d ↔ goneB g s ⟨r, (d : Int), 0⟩ = true)
theorem cand_eq (c low most : Nat → Nat) (L : List Nat) (g : Pl) (s : Bool) (h : Jv c low most L g s) (d : Nat) (hd : d ∈ L) : candR g s low most d = candC c most d := by
  obtain ⟨hl, hr⟩ := h d hd
  have h0 := hr (r0R g low d)
  have h1 := hr (r0R g low d + 1)
  have h2 := hr (c d)
  have h3 := hr (c d + 1)
  have hn := gone_next g s low d
  have e0 : low d < r0R g low d := by unfold r0R; split <;> omega
  have hc0 := gone_iff g s (c d)
  have hc1 := gone_iff g s (c d + 1)
  have e1 : r0R g low d = low d + 1 ∨ r0R g low d = g.r := by unfold r0R; split <;> simp
  have e2 : g.r ≤ r0R g low d := by unfold r0R; split <;> omega
  have key : (refR g s low most d ≤ most d ↔ c d < most d) ∧ (c d < most d → refR g s low most d = c d + 1) := by
    unfold refR
    by_cases hg : goneB g s ⟨r0R g low d, (d : Int), 0⟩ = true
    · by_cases hm : r0R g low d ≤ most d
      · rw [if_pos ⟨hm, hg⟩]
        have a0 := (h0 e0 hm).2 hg
        by_cases hm1 : r0R g low d + 1 ≤ most d
        · have a1 : ¬ (r0R g low d + 1 ≤ c d) := fun hh => by rw [(h1 (by omega) hm1).1 hh] at hn; cases hn
          omega
        · omega
      · rw [if_neg (fun hh => hm hh.1)]
        by_cases hcm : c d < most d
        · have a3 : goneB g s ⟨c d + 1, (d : Int), 0⟩ ≠ true := fun hh => by have := (h3 (by omega) (by omega)).2 hh; omega
          exfalso
          apply a3
          rw [gone_iff] at hg ⊢
          omega
        · omega
    · rw [if_neg (fun hh => hg hh.2)]
      by_cases hm : r0R g low d ≤ most d
      · have a0 : ¬ r0R g low d ≤ c d := fun hh => hg ((h0 e0 hm).1 hh)
        refine ⟨by omega, fun hcm => ?_⟩
        rcases e1 with e1 | e1
        · omega
        · by_cases hx : g.r = c d + 1
          · omega
          · exfalso
            have a3 : goneB g s ⟨c d + 1, (d : Int), 0⟩ ≠ true := fun hh => by have := (h3 (by omega) (by omega)).2 hh; omega
            apply a3
            rw [gone_iff]
            omega
      · refine ⟨⟨fun hh => absurd hh hm, fun hcm => ?_⟩, fun hcm => ?_⟩
        all_goals
          exfalso
          have a3 : goneB g s ⟨c d + 1, (d : Int), 0⟩ ≠ true := fun hh => by have := (h3 (by omega) (by omega)).2 hh; omega
          apply a3
          rw [gone_iff]
          omega
  unfold candR candC
  by_cases hcm : c d < most d
  · rw [if_pos hcm, if_pos (key.1.2 hcm), key.2 hcm]
  · rw [if_neg hcm, if_neg (fun hh => hcm (key.1.1 hh))]
theorem next_eq (c low most m : Nat → Nat) (g : Pl) (s : Bool) (h : Jv c low most (lst m) g s) : nextR g s low most m = fstM c most m :=
  bestL_congr _ _ _ fun d hd => cand_eq c low most (lst m) g s h d hd

theorem Jv.step {c low most m : Nat → Nat} {g : Pl} {s : Bool} (h : Jv c low most (lst m) g s) (p : Pl) (hp : fstM c most m = some p) : Jv (putC c p.f.toNat p.r) low most (lst m) p false := by
  obtain ⟨d0, hd0, _, hlt, rfl, hmin⟩ := fstM_some c most m p hp
  have hq := (h d0 hd0)
  have hg0 : ¬ goneB g s ⟨c d0 + 1, (d0 : Int), 0⟩ = true := fun hh => by have := (hq.2 (c d0 + 1) (by omega) (by omega)).2 hh; omega
  intro d hd
  obtain ⟨hl, hr⟩ := h d hd
  simp only [Int.toNat_natCast, putC]
  by_cases e : d = d0
  · subst e
    rw [if_pos rfl]
    refine ⟨by omega, fun r h1 h2 => ?_⟩
    rw [gone_iff]
    show r ≤ c d + 1 ↔ (r < c d + 1 ∨ r = c d + 1 ∧ ((d : Int) < (d : Int) ∨ (d : Int) = (d : Int) ∧ (0 : Int) < 0)) ∨ (false = false ∧ r = c d + 1 ∧ (d : Int) = (d : Int) ∧ (0 : Int) = 0)
    constructor
    · intro hh
      by_cases hx : r = c d + 1
      · exact .inr ⟨rfl, hx, rfl, rfl⟩
      · exact .inl (.inl (by omega))
    · rintro ((hh | ⟨hh, _⟩) | ⟨_, hh, _⟩) <;> omega
  · rw [if_neg e]
    refine ⟨hl, fun r h1 h2 => ?_⟩
    rw [hr r h1 h2]
    have hrr := hr r h1 h2
    rw [gone_iff] at hg0 hrr
    rw [gone_iff, gone_iff]
    by_cases hc : c d < most d
    · have hm := hmin d hd hc
      rw [bef_no] at hm
      simp only at hm ⊢
      have e' : (d : Int) ≠ (d0 : Int) := by omega
      cases s
      · simp only [true_and] at hg0 hrr ⊢
        omega
      · simp only [Bool.true_eq_false, false_and, or_false] at hg0 hrr ⊢
        omega
    · simp only at ⊢
      have e' : (d : Int) ≠ (d0 : Int) := by omega
      cases s
      · simp only [true_and] at hg0 hrr ⊢
        omega
      · simp only [Bool.true_eq_false, false_and, or_false] at hg0 hrr ⊢
        omega

theorem from_eq (low most m : Nat → Nat) : ∀ (n : Nat) (c : Nat → Nat) (g : Pl) (s : Bool), Jv c low most (lst m) g s → fromL low most m n (nextR g s low most m) = missL most m n c
  | 0, _, _, _, _ => rfl
  | n + 1, c, g, s, h => by
    rw [next_eq c low most m g s h]
    cases hp : fstM c most m with
    | none => rw [missL_none _ _ _ _ hp]; rfl
    | some p =>
      rw [missL_some _ _ _ _ _ hp]
      show p :: fromL low most m n (nextR p false low most m) = _
      rw [from_eq low most m n _ p false (h.step p hp)]

/- From the counts themselves on; from a place on. -/
theorem Jv.self (c most m : Nat → Nat) : Jv c c most (lst m) Pl.zero true := fun d _ => ⟨Nat.le_refl _, fun r h1 _ => by
  rw [gone_iff]
  simp only [Pl.zero, Bool.true_eq_false, false_and, or_false]
  omega⟩
def aheadC (g : Pl) : Nat → Nat := fun d => if 0 < g.r ∧ befB ⟨g.r, (d : Int), 0⟩ g = false then g.r - 1 else g.r
theorem Jv.ahead (g : Pl) (most m : Nat → Nat) : Jv (aheadC g) noMb most (lst m) g true := fun d _ => ⟨Nat.zero_le _, fun r h1 _ => by
  rw [gone_iff]
  simp only [noMb] at h1
  simp only [Bool.true_eq_false, false_and, or_false, aheadC]
  split
  · rename_i h
    obtain ⟨h2, h3⟩ := h
    rw [bef_no] at h3
    dsimp only at h3
    omega
  · rename_i h
    rw [Bool.eq_false_iff, ne_eq, bef_yes] at h
    dsimp only at h
    omega⟩

theorem miss_ref (c most m : Nat → Nat) : fromL c most m 100 (nextR Pl.zero true c most m) = missL most m 100 c := from_eq c most m 100 c Pl.zero true (Jv.self c most m)
theorem rest_ref (g : Pl) (most m : Nat → Nat) : fromL noMb most m 100 (nextR g true noMb most m) = missL most m 100 (aheadC g) := from_eq noMb most m 100 _ g true (Jv.ahead g most m)

end Go.Proofs.Ytodemfkjieonoaa
