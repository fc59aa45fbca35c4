/-
  Capabilities: what follows of Mint, Check, Revoke, Drop and May, by plain lists: a table that may be stays one; what one handle gives hangs on what was done with it alone.
  No condition.
-/
import Derived.Test.YtbefamedligoeaaRtF
namespace Go.Proofs.Ytbefamedligoeaa
set_option maxRecDepth 10000
open Go.RowKit Go.Sort

def MayP (L : List Ri) : Prop := L.length ≤ 16 ∧ (∀ x ∈ L, x.h ≠ 0 ∧ giftB x.g = true) ∧ (L.map (·.h)).Nodup
def fnd (h : Nat) (L : List Ri) : Option Ri := L.find? (isHd h)

theorem isHd_iff (h : Nat) (x : Ri) : isHd h x = true ↔ x.h = h := by simp [isHd]
theorem find_first {α : Type} (q : α → Bool) : ∀ (L : List α) (i : Nat) (x : α), L.findIdx? q = some i → L[i]? = some x → L.find? q = some x
  | [], i, x, h, _ => by simp at h
  | y :: L, i, x, h, hx => by
    rw [List.findIdx?_cons] at h
    by_cases hq : q y = true
    · rw [if_pos hq] at h
      injection h with h
      subst h
      simp at hx
      subst hx
      rw [List.find?_cons, hq]
    · rw [if_neg hq] at h
      cases e : L.findIdx? q with
      | none => rw [e] at h; simp at h
      | some j =>
        rw [e] at h
        simp at h
        subst h
        rw [List.find?_cons, Bool.eq_false_iff.2 hq]
        exact find_first q L j x e (by simpa using hx)
theorem find_none {h : Nat} {L : List Ri} (e : fstR h L = none) : fnd h L = none := by
  unfold fnd
  rw [List.find?_eq_none]
  intro x hx
  rw [first_none _ _ e x hx]
  decide
theorem find_some {h : Nat} {L : List Ri} {x : Ri} (e : fnd h L = some x) : x ∈ L ∧ x.h = h := ⟨List.mem_of_find?_eq_some e, by simpa [isHd] using List.find?_some e⟩
theorem find_mem : ∀ {L : List Ri}, (L.map (·.h)).Nodup → ∀ {x : Ri}, x ∈ L → fnd x.h L = some x
  | [], _, x, hx => by simp at hx
  | y :: L, nd, x, hx => by
    rw [List.map_cons, List.nodup_cons] at nd
    unfold fnd
    rw [List.find?_cons]
    rcases List.mem_cons.1 hx with rfl | hx
    · rw [(isHd_iff x.h x).2 rfl]
    · have hne : isHd x.h y = false := by
        rw [Bool.eq_false_iff]
        intro h
        exact nd.1 (List.mem_map.2 ⟨x, hx, ((isHd_iff _ _).1 h).symm⟩)
      rw [hne]
      exact find_mem nd.2 hx
theorem find_ext {h : Nat} {L M : List Ri} (nl : (L.map (·.h)).Nodup) (nm : (M.map (·.h)).Nodup) (hh : ∀ x : Ri, x.h = h → (x ∈ L ↔ x ∈ M)) : fnd h L = fnd h M := by
  cases e : fnd h L with
  | some x =>
    obtain ⟨h1, h2⟩ := find_some e
    have := find_mem nm ((hh x h2).1 h1)
    rw [h2] at this
    exact this.symm
  | none =>
    cases e2 : fnd h M with
    | none => rfl
    | some x =>
      obtain ⟨h1, h2⟩ := find_some e2
      have := find_mem nl ((hh x h2).2 h1)
      rw [h2, e] at this
      cases this

theorem chk_find (h : Nat) (want : Int) (L : List Ri) : chkR h want L = match fnd h L with
    | none => none
    | some x => if x.r = false ∧ giftB want = true ∧ giveB x.g want = true then some x.s else none := by
  rcases fst_cases h L with ⟨h1, _⟩ | ⟨i, x, h1, h2, _⟩
  · rw [chk_none want (val_none h1), find_none h1]
  · have e : fnd h L = some x := find_first _ _ _ _ h1 h2
    rw [e]
    have hv := val_of h1 h2
    cases h3 : x.r with
    | true =>
      rw [h3, if_pos rfl] at hv
      rw [chk_none want hv]
      simp [h3]
    | false =>
      rw [h3, if_neg (by decide)] at hv
      rw [chk_of want hv h2]
      simp [h3]

theorem okTo_iff (L : List Ri) (j : Nat) : okTo L j = true ↔ ∀ i, i < j → ∀ x, L[i]? = some x → okR L i x = true := by
  unfold okTo
  rw [List.all_eq_true]
  constructor
  · intro h i hi x hx
    have := h i (by simpa using hi)
    simpa [hx] using this
  · intro h i hi
    cases e : L[i]? with
    | none => rfl
    | some x => exact h i (by simpa using hi) x e
theorem may_iff (L : List Ri) : mayT L = true ↔ MayP L := by
  unfold mayT MayP
  rw [Bool.and_eq_true, decide_eq_true_eq, okTo_iff]
  refine and_congr_right fun _ => ?_
  constructor
  · intro h
    refine ⟨fun x hx => ?_, ?_⟩
    · obtain ⟨i, hi⟩ := List.mem_iff_getElem?.1 hx
      have := h i (List.getElem?_eq_some_iff.1 hi).1 x hi
      unfold okR at this
      simp at this
      exact ⟨this.1, this.2.2⟩
    · rw [List.Nodup, List.pairwise_iff_getElem]
      intro i j hi hj hij he
      simp at hi hj he
      have a1 := h i hi L[i] (List.getElem?_eq_getElem hi)
      have a2 := h j hj L[j] (List.getElem?_eq_getElem hj)
      unfold okR at a1 a2
      simp at a1 a2
      rw [he, a2.2.1] at a1
      have := a1.2.1
      simp at this
      omega
  · rintro ⟨h1, h2⟩ i hi x hx
    have hm := List.mem_of_getElem? hx
    unfold okR
    have hf : fstR x.h L = some i := by
      refine first_at _ L i x hx ((isHd_iff _ _).2 rfl) fun k hk => ?_
      rw [Bool.eq_false_iff]
      intro e
      have e := (isHd_iff _ _).1 e
      obtain ⟨j, hj⟩ := List.mem_iff_getElem?.1 hk
      rw [List.getElem?_take] at hj
      split at hj
      · rename_i hji
        rw [List.Nodup, List.pairwise_iff_getElem] at h2
        have hjl := (List.getElem?_eq_some_iff.1 hj).1
        refine h2 j i (by simpa using hjl) (by simpa using hi) hji ?_
        have q1 := (List.getElem?_eq_some_iff.1 hj).2
        have q2 := (List.getElem?_eq_some_iff.1 hx).2
        simp [q1, q2, e]
      · cases hj
    simp [(h1 x hm).1, (h1 x hm).2, hf]

theorem mintE_zero {h : Nat} {g : Int} {L : List Ri} (e : mintE h g L = 0) : h ≠ 0 ∧ fstR h L = none ∧ giftB g = true ∧ L.length < 16 := by
  unfold mintE at e
  by_cases h1 : h = 0 ∨ (fstR h L).isSome = true ∨ giftB g = false
  · rw [if_pos h1] at e; omega
  · rw [if_neg h1] at e
    by_cases h2 : 16 ≤ L.length
    · rw [if_pos h2] at e; omega
    · refine ⟨fun h => h1 (.inl h), ?_, ?_, by omega⟩
      · cases e2 : fstR h L with
        | none => rfl
        | some i => exact absurd (.inr (.inl (by rw [e2]; rfl))) h1
      · cases e2 : giftB g with
        | true => rfl
        | false => exact absurd (.inr (.inr e2)) h1
theorem may_mint {h s : Nat} {g : Int} {L : List Ri} (hL : MayP L) (e : mintE h g L = 0) : mintL h s g L = L ++ [⟨h, s, g, false⟩] ∧ MayP (L ++ [⟨h, s, g, false⟩]) ∧ ∀ x ∈ L, x.h ≠ h := by
  obtain ⟨h1, h2, h3, h4⟩ := mintE_zero e
  have hn : ∀ x ∈ L, x.h ≠ h := fun x hx hh => by
    have := first_none _ _ h2 x hx
    rw [(isHd_iff h x).2 hh] at this
    cases this
  refine ⟨by unfold mintL; rw [if_pos e], ⟨by simp; omega, fun x hx => ?_, ?_⟩, hn⟩
  · rcases List.mem_append.1 hx with hx | hx
    · exact hL.2.1 x hx
    · simp at hx
      subst hx
      exact ⟨h1, h3⟩
  · rw [List.map_append, List.nodup_append]
    refine ⟨hL.2.2, by simp, ?_⟩
    intro a ha b hb
    obtain ⟨x, hx, rfl⟩ := List.mem_map.1 ha
    simp at hb
    subst hb
    exact hn x hx

def offAt (h : Nat) (y : Ri) : Ri := if y.h = h then offR y else y
theorem offAt_h (h : Nat) (y : Ri) : (offAt h y).h = y.h := by
  unfold offAt offR
  split <;> rfl
theorem set_map {L : List Ri} (nd : (L.map (·.h)).Nodup) {i : Nat} {x : Ri} (hx : L[i]? = some x) : L.set i (offR x) = L.map (offAt x.h) := by
  have hi := (List.getElem?_eq_some_iff.1 hx).1
  have ei := (List.getElem?_eq_some_iff.1 hx).2
  apply List.ext_getElem
  · simp
  intro j h1 h2
  simp at h1 h2
  rw [List.getElem_set, List.getElem_map]
  rw [List.Nodup, List.pairwise_iff_getElem] at nd
  by_cases hij : i = j
  · subst hij
    rw [if_pos rfl, ei]
    unfold offAt
    rw [if_pos rfl]
  · rw [if_neg hij]
    unfold offAt
    rw [if_neg]
    intro he
    rcases Nat.lt_or_gt_of_ne hij with h | h
    · refine nd i j (by simpa using hi) (by simpa using h2) h ?_
      simp [ei, he]
    · refine nd j i (by simpa using h2) (by simpa using hi) h ?_
      simp [ei, he]
theorem may_off {h : Nat} {L : List Ri} (hL : MayP L) : MayP (L.map (offAt h)) := by
  refine ⟨by simpa using hL.1, fun x hx => ?_, ?_⟩
  · obtain ⟨y, hy, rfl⟩ := List.mem_map.1 hx
    have := hL.2.1 y hy
    unfold offAt offR
    split
    · exact this
    · exact this
  · rw [List.map_map, show ((fun x : Ri => x.h) ∘ offAt h) = (fun x => x.h) from funext fun y => offAt_h h y]
    exact hL.2.2
theorem find_off (h k : Nat) (L : List Ri) : fnd k (L.map (offAt h)) = (fnd k L).map (offAt h) := by
  unfold fnd
  rw [List.find?_map, show (isHd k ∘ offAt h) = isHd k from funext fun y => by simp [isHd, offAt_h]]
theorem rev_zero {h : Nat} {L : List Ri} (hL : MayP L) (e : revE h L = 0) : revL h L = L.map (offAt h) ∧ ∃ x, fnd h L = some x := by
  cases hv : valR h L with
  | none => unfold revE at e; rw [hv] at e; simp at e
  | some i =>
    obtain ⟨h1, x, h2, h3⟩ := val_some hv
    have hf : fnd h L = some x := find_first _ _ _ _ h1 h2
    refine ⟨?_, x, hf⟩
    unfold revL
    simp only [hv, h2]
    rw [set_map hL.2.2 h2, (find_some hf).2]
theorem rev_not {h : Nat} {L : List Ri} (e : revE h L ≠ 0) : ∀ x, fnd h L = some x → x.r = true := by
  intro x hx
  cases hv : valR h L with
  | some i => exfalso; apply e; unfold revE; rw [hv]; rfl
  | none =>
    rcases fst_cases h L with ⟨h1, _⟩ | ⟨i, y, h1, h2, _⟩
    · rw [find_none h1] at hx; cases hx
    · have hf : fnd h L = some y := find_first _ _ _ _ h1 h2
      rw [hf] at hx
      injection hx with hx
      subst hx
      rw [val_of h1 h2] at hv
      cases h3 : y.r with
      | true => rfl
      | false => rw [h3] at hv; cases hv
theorem may_drop {s : Nat} {L : List Ri} (hL : MayP L) : MayP (dropR s L) := by
  refine ⟨Nat.le_trans (drop_len s L) hL.1, fun x hx => hL.2.1 x (List.mem_filter.1 hx).1, ?_⟩
  exact hL.2.2.sublist (List.Sublist.map _ List.filter_sublist)
theorem mem_drop (s : Nat) (L : List Ri) (x : Ri) : x ∈ dropR s L ↔ x ∈ L ∧ x.s ≠ s := by
  unfold dropR offL
  rw [List.mem_filter]
  simp [ofS]

theorem may_done {L : List Ri} (hL : MayP L) (x : Dx) : MayP (doneL L x) := by
  unfold doneL
  split
  · split
    · rename_i e
      rw [(may_mint (s := x.s) hL e).1]
      exact (may_mint hL e).2.1
    · exact hL
  · split
    · split
      · rename_i e
        rw [(rev_zero hL e).1]
        exact may_off hL
      · exact hL
    · split
      · exact may_drop hL
      · exact hL
/- What is done with one handle changes nothing of another one. -/
theorem find_done {L : List Ri} (hL : MayP L) (x : Dx) (h : Nat) (hx : x.h ≠ h) (hd : x.d ≠ 2) : fnd h (doneL L x) = fnd h L := by
  unfold doneL
  split
  · split
    · rename_i e
      rw [(may_mint (s := x.s) hL e).1]
      refine find_ext (may_mint hL e).2.1.2.2 hL.2.2 fun y hy => ?_
      rw [List.mem_append]
      constructor
      · rintro (h1 | h1)
        · exact h1
        · simp at h1
          subst h1
          exact absurd hy hx
      · exact .inl
    · rfl
  · split
    · split
      · rename_i e
        rw [(rev_zero hL e).1, find_off]
        cases e2 : fnd h L with
        | none => rfl
        | some y =>
          have := (find_some e2).2
          simp only [Option.map_some, offAt]
          rw [if_neg (by rw [this]; exact fun q => hx q.symm)]
      · rfl
    · rfl
theorem chk_done {L : List Ri} (hL : MayP L) (x : Dx) (h : Nat) (want : Int) (hx : x.h ≠ h) (hd : x.d ≠ 2) : chkR h want (doneL L x) = chkR h want L := by
  rw [chk_find, chk_find, find_done hL x h hx hd]

/- From an empty table on: what a handle gives. -/
def InvM (hd : Nat) (L : List Ri) (S : Nat) (G : Int) : Prop := MayP L ∧ (G = 0 → ∀ x, fnd hd L = some x → x.r = true) ∧ (G ≠ 0 → ∃ x, fnd hd L = some x ∧ x.r = false ∧ x.s = S ∧ x.g = G)
theorem inv_none (hd : Nat) : InvM hd [] 0 0 := ⟨⟨by simp, by simp, by simp⟩, fun _ x h => by simp [fnd] at h, fun h => absurd rfl h⟩
theorem gift_ne {g : Int} (h : giftB g = true) : g ≠ 0 := by
  unfold giftB at h
  simp at h
  omega
theorem inv_same {hd : Nat} {L : List Ri} {S : Nat} {G : Int} (I : InvM hd L S G) {M : List Ri} (hM : MayP M) (e : fnd hd M = fnd hd L) : InvM hd M S G := ⟨hM, by rw [e]; exact I.2⟩
/- Minted, with this handle. -/
theorem inv_mint {hd : Nat} {L : List Ri} {S : Nat} {G : Int} (I : InvM hd L S G) (x : Dx) (h0 : x.d = 0) (hx : x.h = hd) (hl : L.length < (doneL L x).length) : InvM hd (doneL L x) x.s x.g := by
  have hm := may_done I.1 x
  have e : mintE x.h x.g L = 0 := by
    by_cases e : mintE x.h x.g L = 0
    · exact e
    · unfold doneL at hl
      rw [if_pos h0, if_neg e] at hl
      omega
  have ed : doneL L x = L ++ [⟨x.h, x.s, x.g, false⟩] := by
    unfold doneL
    rw [if_pos h0, if_pos e, (may_mint I.1 e).1]
  have hg := (mintE_zero e).2.2.1
  rw [ed] at hm ⊢
  have hf := find_mem hm.2.2 (x := ⟨x.h, x.s, x.g, false⟩) (by simp)
  rw [show (Ri.mk x.h x.s x.g false).h = hd from hx] at hf
  exact ⟨hm, fun h => absurd h (gift_ne hg), fun _ => ⟨_, hf, rfl, rfl, rfl⟩⟩
/- Not minted: nothing is new. -/
theorem inv_mint0 {hd : Nat} {L : List Ri} {S : Nat} {G : Int} (I : InvM hd L S G) (x : Dx) (h0 : x.d = 0) (hl : ¬ L.length < (doneL L x).length) : InvM hd (doneL L x) S G := by
  have e : doneL L x = L := by
    unfold doneL at hl ⊢
    rw [if_pos h0] at hl ⊢
    by_cases e : mintE x.h x.g L = 0
    · rw [if_pos e, (may_mint (s := x.s) I.1 e).1] at hl
      simp at hl
    · rw [if_neg e]
  rw [e]
  exact I
theorem inv_other {hd : Nat} {L : List Ri} {S : Nat} {G : Int} (I : InvM hd L S G) (x : Dx) (hx : x.h ≠ hd) (h2 : x.d ≠ 2) : InvM hd (doneL L x) S G := inv_same I (may_done I.1 x) (find_done I.1 x hd hx h2)
theorem inv_rev {hd : Nat} {L : List Ri} {S : Nat} {G : Int} (I : InvM hd L S G) (x : Dx) (h1 : x.d = 1) (hx : x.h = hd) : InvM hd (doneL L x) S 0 := by
  refine ⟨may_done I.1 x, fun _ y hy => ?_, fun h => absurd rfl h⟩
  unfold doneL at hy
  rw [if_neg (by omega), if_pos h1, hx] at hy
  by_cases e : revE hd L = 0
  · rw [if_pos e, (rev_zero I.1 e).1, find_off] at hy
    cases e2 : fnd hd L with
    | none => rw [e2] at hy; cases hy
    | some z =>
      rw [e2] at hy
      simp only [Option.map_some, offAt] at hy
      rw [if_pos (find_some e2).2] at hy
      injection hy with hy
      subst hy
      rfl
  · rw [if_neg e] at hy
    exact rev_not e y hy
theorem done_drop {L : List Ri} {x : Dx} (h2 : x.d = 2) : doneL L x = dropR x.s L := by
  unfold doneL
  rw [if_neg (by omega), if_neg (by omega), if_pos h2]
theorem find_drop {hd s : Nat} {L : List Ri} (hL : MayP L) {y : Ri} (h : fnd hd (dropR s L) = some y) : fnd hd L = some y ∧ y.s ≠ s := by
  obtain ⟨h1, h2⟩ := find_some h
  obtain ⟨h3, h4⟩ := (mem_drop _ _ _).1 h1
  have := find_mem hL.2.2 h3
  rw [h2] at this
  exact ⟨this, h4⟩
theorem inv_drop {hd : Nat} {L : List Ri} {S : Nat} {G : Int} (I : InvM hd L S G) (x : Dx) (h2 : x.d = 2) (hx : x.s = S) : InvM hd (doneL L x) S 0 := by
  refine ⟨may_done I.1 x, fun _ y hy => ?_, fun h => absurd rfl h⟩
  rw [done_drop h2] at hy
  obtain ⟨h3, h4⟩ := find_drop I.1 hy
  by_cases hG : G = 0
  · exact I.2.1 hG y h3
  · obtain ⟨z, e1, _, e3, _⟩ := I.2.2 hG
    rw [h3] at e1
    injection e1 with e1
    subst e1
    exact absurd (e3.trans hx.symm) h4
theorem inv_drop0 {hd : Nat} {L : List Ri} {S : Nat} {G : Int} (I : InvM hd L S G) (x : Dx) (h2 : x.d = 2) (hx : x.s ≠ S) : InvM hd (doneL L x) S G := by
  have hm := may_done I.1 x
  rw [done_drop h2] at hm ⊢
  refine ⟨hm, fun hG y hy => I.2.1 hG y (find_drop I.1 hy).1, fun hG => ?_⟩
  obtain ⟨z, e1, e2, e3, e4⟩ := I.2.2 hG
  obtain ⟨h3, h4⟩ := find_some e1
  have := find_mem hm.2.2 (x := z) ((mem_drop _ _ _).2 ⟨h3, by rw [e3]; exact fun q => hx q.symm⟩)
  rw [h4] at this
  exact ⟨z, this, e2, e3, e4⟩
theorem inv_none0 {hd : Nat} {L : List Ri} {S : Nat} {G : Int} (I : InvM hd L S G) (x : Dx) (h0 : x.d ≠ 0) (h1 : x.d ≠ 1) (h2 : x.d ≠ 2) : InvM hd (doneL L x) S G := by
  unfold doneL
  rw [if_neg h0, if_neg h1, if_neg h2]
  exact I
theorem and_zero (want : Int) (h : giftB want = true) : giveB 0 want = false := by
  unfold giftB at h
  simp at h
  have hc : want = 1 ∨ want = 2 ∨ want = 3 ∨ want = 4 ∨ want = 5 ∨ want = 6 ∨ want = 7 := by omega
  rcases hc with rfl | rfl | rfl | rfl | rfl | rfl | rfl <;> rfl
/- What Check answers at the end. -/
theorem inv_end {hd : Nat} {L : List Ri} {S : Nat} {G : Int} (I : InvM hd L S G) (want : Int) : chkR hd want L = if giftB want = true ∧ giveB G want = true then some S else none := by
  rw [chk_find]
  by_cases hG : G = 0
  · subst hG
    rw [if_neg (by rintro ⟨h1, h2⟩; rw [and_zero want h1] at h2; cases h2)]
    cases e : fnd hd L with
    | none => rfl
    | some x => simp [I.2.1 rfl x e]
  · obtain ⟨z, e1, e2, e3, e4⟩ := I.2.2 hG
    rw [e1]
    simp [e2, e3, e4]

end Go.Proofs.Ytbefamedligoeaa
