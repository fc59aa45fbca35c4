/-
  Entries that wait for their delivery: what is added where, what is ready and what still waits, as plain functions; what follows of them, from nothing on, as frames come.
  No condition.
-/
import Derived.Test.YtmnpbjaofemelaaEn
import Derived.Test.YtmnpbjaofemelaaRdN
namespace Go.Proofs.Ytmnpbjaofemelaa
set_option maxRecDepth 10000
open Go.RowKit Go.Sort

structure Wt where
  p : Pl
  e : En

/- Places in their order. -/
def Bef (a b : Pl) : Prop := a.r < b.r ∨ a.r = b.r ∧ (a.f < b.f ∨ a.f = b.f ∧ a.s < b.s)
theorem befB_iff (a b : Pl) : befB a b = true ↔ Bef a b := by unfold befB Bef; rw [decide_eq_true_eq]
theorem Bef.trans {a b c : Pl} (h : Bef a b) (k : Bef b c) : Bef a c := by unfold Bef at *; omega
theorem Bef.irr (a : Pl) : ¬ Bef a a := by unfold Bef; omega
theorem Bef.total (a b : Pl) : Bef a b ∨ a = b ∨ Bef b a := by
  obtain ⟨r, f, s⟩ := a
  obtain ⟨r', f', s'⟩ := b
  unfold Bef
  simp only [Pl.mk.injEq]
  omega

def Wt.same (a b : Wt) : Bool := Pl.same a.p b.p && En.same a.e b.e
theorem Wt.same_iff (a b : Wt) : Wt.same a b = true ↔ a = b := by
  unfold Wt.same
  rw [Bool.and_eq_true, Pl.same_iff, En.same_iff]
  obtain ⟨p, e⟩ := a
  obtain ⟨p', e'⟩ := b
  simp
def noE (e : En) : Bool := En.same e En.zero
/- Ahead of the first one that its place stands Before. -/
def insQ (w : Wt) : List Wt → List Wt
  | [] => [w]
  | x :: q => if befB w.p x.p = true then w :: x :: q else x :: insQ w q
def hasP (p : Pl) (q : List Wt) : Bool := q.any fun x => Pl.same x.p p
def addQ1 (w : Wt) (q : List Wt) : List Wt := if hasP w.p q = true then q else insQ w q
/- Entries from a number on. -/
def addQ (f : Int) (r : Nat) : Nat → List En → List Wt → List Wt
  | _, [], q => q
  | i, e :: l, q => addQ f r (i + 1) l (if noE e = true then q else addQ1 ⟨⟨r, f, (i : Int)⟩, e⟩ q)
def ordB (e : En) : Bool := decide (e.k ≠ 1 ∨ e.sv = 2 ∨ e.sv = 3)
def svOf (e : En) : Int := if e.k = 1 then e.sv else 2
def isQ (c m : Nat → Nat) (w : Wt) : Bool := svcB c m w.p (svOf w.e)
/- o: no ordered one ahead waits. -/
def takeQ (c m : Nat → Nat) (o : Bool) (w : Wt) : Bool := isQ c m w && (!ordB w.e || o)
def openQ (c m : Nat → Nat) (o : Bool) (w : Wt) : Bool := o && (!ordB w.e || isQ c m w)
def rdyQ (c m : Nat → Nat) : Bool → List Wt → List Wt
  | _, [] => []
  | o, w :: q => (if takeQ c m o w = true then [w] else []) ++ rdyQ c m (openQ c m o w) q
def rstQ (c m : Nat → Nat) : Bool → List Wt → List Wt
  | _, [] => []
  | o, w :: q => (if takeQ c m o w = true then [] else [w]) ++ rstQ c m (openQ c m o w) q
def MayQ (q : List Wt) : Prop := q.Pairwise (fun a b => Bef a.p b.p) ∧ ∀ w ∈ q, noE w.e = false

theorem hasP_iff (p : Pl) (q : List Wt) : hasP p q = true ↔ ∃ x ∈ q, x.p = p := by
  unfold hasP
  rw [List.any_eq_true]
  constructor
  · rintro ⟨x, hx, h⟩
    exact ⟨x, hx, (Pl.same_iff _ _).1 h⟩
  · rintro ⟨x, hx, h⟩
    exact ⟨x, hx, (Pl.same_iff _ _).2 h⟩
theorem insQ_mem (w : Wt) : ∀ (q : List Wt) (x : Wt), x ∈ insQ w q ↔ x = w ∨ x ∈ q
  | [], x => by simp [insQ]
  | y :: q, x => by
    unfold insQ
    split
    · simp
    · simp only [List.mem_cons, insQ_mem w q x]
      constructor
      · rintro (h | h | h)
        · exact .inr (.inl h)
        · exact .inl h
        · exact .inr (.inr h)
      · rintro (h | h | h)
        · exact .inr (.inl h)
        · exact .inl h
        · exact .inr (.inr h)
theorem insQ_len (w : Wt) : ∀ q : List Wt, (insQ w q).length = q.length + 1
  | [] => rfl
  | y :: q => by
    unfold insQ
    split
    · rfl
    · simp [insQ_len w q]
theorem insQ_rise (w : Wt) : ∀ q : List Wt, q.Pairwise (fun a b => Bef a.p b.p) → (∀ x ∈ q, x.p ≠ w.p) → (insQ w q).Pairwise (fun a b => Bef a.p b.p)
  | [], _, _ => by simp [insQ]
  | y :: q, h, hn => by
    have h' := List.pairwise_cons.1 h
    unfold insQ
    split
    · rename_i hb
      rw [befB_iff] at hb
      refine List.pairwise_cons.2 ⟨fun x hx => ?_, h⟩
      rcases List.mem_cons.1 hx with rfl | hx
      · exact hb
      · exact hb.trans (h'.1 x hx)
    · rename_i hb
      have hyw : Bef y.p w.p := by
        rcases Bef.total w.p y.p with k | k | k
        · exact absurd ((befB_iff _ _).2 k) hb
        · exact absurd k.symm (hn y (by simp))
        · exact k
      refine List.pairwise_cons.2 ⟨fun x hx => ?_, insQ_rise w q h'.2 (fun x hx => hn x (by simp [hx]))⟩
      rcases (insQ_mem w q x).1 hx with rfl | hx
      · exact hyw
      · exact h'.1 x hx
theorem add1_mem (w : Wt) (q : List Wt) (x : Wt) : x ∈ addQ1 w q ↔ (x = w ∧ hasP w.p q = false) ∨ x ∈ q := by
  unfold addQ1
  split
  · rename_i h; simp [h]
  · rename_i h; rw [insQ_mem]; simp [h]
theorem add1_may {w : Wt} {q : List Wt} (h : MayQ q) (hw : noE w.e = false) : MayQ (addQ1 w q) := by
  unfold addQ1
  split
  · exact h
  · rename_i hn
    refine ⟨insQ_rise w q h.1 (fun x hx hp => hn ((hasP_iff _ _).2 ⟨x, hx, hp⟩)), fun x hx => ?_⟩
    rcases (insQ_mem w q x).1 hx with rfl | hx
    · exact hw
    · exact h.2 x hx
theorem addQ_may (f : Int) (r : Nat) : ∀ (l : List En) (i : Nat) (q : List Wt), MayQ q → MayQ (addQ f r i l q)
  | [], _, _, h => h
  | e :: l, i, q, h => by
    unfold addQ
    apply addQ_may f r l
    split
    · exact h
    · rename_i hn
      exact add1_may h (by simpa using hn)
theorem addQ_keeps (f : Int) (r : Nat) : ∀ (l : List En) (i : Nat) (q : List Wt) (x : Wt), x ∈ q → x ∈ addQ f r i l q
  | [], _, _, _, h => h
  | e :: l, i, q, x, h => by
    unfold addQ
    apply addQ_keeps f r l
    split
    · exact h
    · exact (add1_mem _ _ _).2 (.inr h)
/- What is new: of this round and daemon, and nothing that is nothing. -/
theorem addQ_new (f : Int) (r : Nat) : ∀ (l : List En) (i : Nat) (q : List Wt) (x : Wt), x ∈ addQ f r i l q → x ∈ q ∨ (x.p.r = r ∧ x.p.f = f ∧ noE x.e = false)
  | [], _, _, _, h => .inl h
  | e :: l, i, q, x, h => by
    unfold addQ at h
    rcases addQ_new f r l (i + 1) _ x h with h | h
    · split at h
      · exact .inl h
      · rename_i hn
        rcases (add1_mem _ _ _).1 h with ⟨h, _⟩ | h
        · subst h
          exact .inr ⟨rfl, rfl, by simpa using hn⟩
        · exact .inl h
    · exact .inr h

/- What is ready, and what still waits. -/
theorem rdy_sub (c m : Nat → Nat) : ∀ (q : List Wt) (o : Bool), (rdyQ c m o q).Sublist q
  | [], _ => by simp [rdyQ]
  | w :: q, o => by
    unfold rdyQ
    split
    · exact (rdy_sub c m q _).cons_cons w
    · exact (rdy_sub c m q _).cons w
theorem rst_sub (c m : Nat → Nat) : ∀ (q : List Wt) (o : Bool), (rstQ c m o q).Sublist q
  | [], _ => by simp [rstQ]
  | w :: q, o => by
    unfold rstQ
    split
    · exact (rst_sub c m q _).cons w
    · exact (rst_sub c m q _).cons_cons w
theorem MayQ.sub {q p : List Wt} (h : MayQ q) (hs : p.Sublist q) : MayQ p := ⟨h.1.sublist hs, fun w hw => h.2 w (hs.subset hw)⟩
theorem rdy_rst (c m : Nat → Nat) : ∀ (q : List Wt) (o : Bool), (rdyQ c m o q).length + (rstQ c m o q).length = q.length
  | [], _ => rfl
  | w :: q, o => by
    have ih := rdy_rst c m q (openQ c m o w)
    unfold rdyQ rstQ
    split <;> simp <;> omega
theorem rdy_or (c m : Nat → Nat) : ∀ (q : List Wt) (o : Bool) (x : Wt), x ∈ q → x ∈ rdyQ c m o q ∨ x ∈ rstQ c m o q
  | [], _, _, h => by cases h
  | w :: q, o, x, h => by
    unfold rdyQ rstQ
    rcases List.mem_cons.1 h with rfl | h
    · split
      · exact .inl (by simp)
      · exact .inr (by simp)
    · rcases rdy_or c m q (openQ c m o w) x h with h | h
      · exact .inl (List.mem_append.2 (.inr h))
      · exact .inr (List.mem_append.2 (.inr h))
theorem rdy_not (c m : Nat → Nat) : ∀ (q : List Wt) (o : Bool) (x : Wt), q.Pairwise (fun a b => Bef a.p b.p) → x ∈ rdyQ c m o q → x ∈ rstQ c m o q → False
  | [], _, _, _, h, _ => by cases h
  | w :: q, o, x, hq, h, k => by
    have hq' := List.pairwise_cons.1 hq
    have hne : ∀ y ∈ q, y ≠ w := fun y hy e => by
      have := hq'.1 y hy
      rw [e] at this
      exact Bef.irr _ this
    unfold rdyQ at h
    unfold rstQ at k
    have s1 := (rdy_sub c m q (openQ c m o w)).subset
    have s2 := (rst_sub c m q (openQ c m o w)).subset
    split at h
    · rename_i ht
      rw [if_pos ht] at k
      simp at h k
      rcases h with h | h
      · exact hne x (s2 k) h
      · exact rdy_not c m q _ x hq'.2 h k
    · rename_i ht
      rw [if_neg ht] at k
      simp at h k
      rcases k with k | k
      · exact hne x (s1 h) k
      · exact rdy_not c m q _ x hq'.2 h k
theorem rdy_is (c m : Nat → Nat) : ∀ (q : List Wt) (o : Bool) (x : Wt), x ∈ rdyQ c m o q → isQ c m x = true
  | [], _, _, h => by cases h
  | w :: q, o, x, h => by
    unfold rdyQ at h
    rcases List.mem_append.1 h with h | h
    · split at h
      · rename_i ht
        simp at h
        subst h
        unfold takeQ at ht
        rw [Bool.and_eq_true] at ht
        exact ht.1
      · cases h
    · exact rdy_is c m q _ x h
/- An ordered one that is ready, and one that waits: it stands Before it. -/
theorem rdy_closed (c m : Nat → Nat) : ∀ (q : List Wt) (x : Wt), x ∈ rdyQ c m false q → ordB x.e = false
  | [], _, h => by cases h
  | w :: q, x, h => by
    unfold rdyQ at h
    rcases List.mem_append.1 h with h | h
    · split at h
      · rename_i ht
        simp at h
        subst h
        unfold takeQ at ht
        simp at ht
        exact ht.2
      · cases h
    · exact rdy_closed c m q x (by simpa [openQ] using h)
theorem rdy_ahead (c m : Nat → Nat) : ∀ (q : List Wt) (o : Bool) (x y : Wt), q.Pairwise (fun a b => Bef a.p b.p) → x ∈ rdyQ c m o q → y ∈ rstQ c m o q → ordB x.e = true → ordB y.e = true → Bef x.p y.p
  | [], _, _, _, _, h, _, _, _ => by cases h
  | w :: q, o, x, y, hq, h, k, hx, hy => by
    have hq' := List.pairwise_cons.1 hq
    unfold rdyQ at h
    unfold rstQ at k
    rcases List.mem_append.1 h with h | h
    · split at h
      · rename_i ht
        simp at h
        subst h
        rw [if_pos ht] at k
        simp at k
        exact hq'.1 y ((rst_sub c m q _).subset k)
      · cases h
    · rcases List.mem_append.1 k with k | k
      · split at k
        · cases k
        · rename_i ht
          simp at k
          subst k
          exfalso
          have : openQ c m o y = false := by
            unfold openQ
            unfold takeQ at ht
            rw [hy] at ht ⊢
            simp at ht ⊢
            intro ho
            cases hi : isQ c m y with
            | false => rfl
            | true => rw [ht hi] at ho; cases ho
          rw [this] at h
          rw [rdy_closed c m q x h] at hx
          cases hx
      · exact rdy_ahead c m q _ x y hq'.2 h k hx hy
/- One that is not ordered waits only if it is not ready. -/
theorem rst_free (c m : Nat → Nat) : ∀ (q : List Wt) (o : Bool) (x : Wt), x ∈ rstQ c m o q → ordB x.e = false → isQ c m x = false
  | [], _, _, h, _ => by cases h
  | w :: q, o, x, h, hx => by
    unfold rstQ at h
    rcases List.mem_append.1 h with h | h
    · split at h
      · cases h
      · rename_i ht
        simp at h
        subst h
        unfold takeQ at ht
        rw [hx] at ht
        simpa using ht
    · exact rst_free c m q _ x h hx
theorem rdy_full (c m : Nat → Nat) : ∀ (q : List Wt), (∀ x ∈ q, isQ c m x = true) → rdyQ c m true q = q ∧ rstQ c m true q = []
  | [], _ => ⟨rfl, rfl⟩
  | w :: q, h => by
    have hw := h w (by simp)
    have ih := rdy_full c m q (fun x hx => h x (by simp [hx]))
    have h1 : takeQ c m true w = true := by simp [takeQ, hw]
    have h2 : openQ c m true w = true := by simp [openQ, hw]
    unfold rdyQ rstQ
    rw [h1, h2, ih.1, ih.2]
    simp

/- What is there behind some frames: c the counts, A all that came, out what was delivered, q what waits. -/
def Oth (a b : Wt) : Prop := (a.p.f = b.p.f → a.e.sv = b.e.sv → a.e.k = b.e.k → Bef a.p b.p) ∧ (a.e.k = 1 → b.e.k = 1 → a.e.sv = 1 → b.e.sv = 0 ∨ b.e.sv = 1 → a.p.r ≤ b.p.r)
def Ord2 (a b : Wt) : Prop := ordB a.e = true → ordB b.e = true → Bef a.p b.p
structure JQ (m c : Nat → Nat) (A out q : List Wt) : Prop where
  mayA : MayQ A
  mayq : MayQ q
  mem : ∀ x ∈ A, ∃ d ∈ lst m, x.p.f = (d : Int) ∧ 1 ≤ x.p.r ∧ x.p.r ≤ c d
  len : out.length + q.length = A.length
  ino : ∀ x ∈ out, x ∈ A
  inq : ∀ x ∈ q, x ∈ A
  nod : out.Pairwise (fun a b => a.p ≠ b.p)
  apart : ∀ x ∈ out, ∀ y ∈ q, x.p ≠ y.p
  was : ∀ x ∈ out, isQ c m x = true
  ord : out.Pairwise Ord2
  ordq : ∀ x ∈ out, ∀ y ∈ q, Ord2 x y
  oth : out.Pairwise Oth
  othq : ∀ x ∈ out, ∀ y ∈ q, Oth x y

theorem JQ.start (m c : Nat → Nat) : JQ m c [] [] [] := by
  constructor <;> first | exact .nil | exact ⟨.nil, fun _ h => (by cases h)⟩ | rfl | (intro x hx; cases hx)

theorem ord_svc {c m : Nat → Nat} {x : Wt} (h : isQ c m x = true) (ho : ordB x.e = true) : svcB c m x.p 2 = true := by
  unfold isQ svOf at h
  unfold ordB at ho
  simp at ho
  split at h
  · rename_i hk
    rcases ho with ho | ho | ho
    · exact absurd hk ho
    · rw [ho] at h; exact h
    · rw [ho] at h; exact svc32 _ _ _ h
  · exact h
theorem svc2_new {c m : Nat → Nat} {p : Pl} (h : svcB c m p 2 = true) {d : Nat} (hd : d ∈ lst m) {s : Int} : Bef p ⟨c d + 1, (d : Int), s⟩ := by
  unfold svcB at h
  rw [Bool.and_eq_true, kind2, Bool.and_eq_true, decide_eq_true_eq, lowB_iff] at h
  obtain ⟨h1, h2, h3⟩ := h
  unfold inB at h1
  rw [Bool.and_eq_true, decide_eq_true_eq, isM_iff] at h1
  obtain ⟨⟨k, hk, hkm⟩, h4, h5⟩ := h1
  have h6 := leastC_le c m d hd
  rw [hk] at h5
  simp at h5
  have h7 := h3 d hd
  unfold Bef
  simp only
  by_cases hlt : p.r < c d + 1
  · exact .inl hlt
  · right
    have hr : p.r = c d + 1 := by omega
    refine ⟨hr, ?_⟩
    left
    rw [hk]
    by_cases hdk : d < k
    · have := h7 (by rw [hk]; omega)
      omega
    · by_cases he : d = k
      · subst he; omega
      · omega
theorem svc1_new {c m : Nat → Nat} {p : Pl} (h : svcB c m p 1 = true) {d : Nat} (hd : d ∈ lst m) : p.r ≤ c d + 1 := by
  unfold svcB at h
  rw [Bool.and_eq_true, kind1, decide_eq_true_eq] at h
  have := leastC_le c m d hd
  omega
theorem isQ_in {c m : Nat → Nat} {x : Wt} (h : isQ c m x = true) : ∃ d ∈ lst m, x.p.f = (d : Int) ∧ 1 ≤ x.p.r ∧ x.p.r ≤ c d := by
  unfold isQ svcB inB at h
  rw [Bool.and_eq_true, Bool.and_eq_true, decide_eq_true_eq, isM_iff] at h
  obtain ⟨⟨⟨k, hk, hkm⟩, h4, h5⟩, _⟩ := h
  rw [hk] at h5
  simp at h5
  exact ⟨k, hkm, hk, by omega, h5⟩
theorem in_inB {c m : Nat → Nat} {p : Pl} {d : Nat} (hd : d ∈ lst m) (hf : p.f = (d : Int)) (h1 : 1 ≤ p.r) (h2 : p.r ≤ c d) : inB c m p = true := by
  unfold inB
  rw [Bool.and_eq_true, decide_eq_true_eq, isM_iff]
  exact ⟨⟨d, hf, hd⟩, by omega, by rw [hf]; simpa using h2⟩
/- Of one that was delivered, and one that is of a daemon's next round. -/
theorem new_behind {c m : Nat → Nat} {x y : Wt} (hx : isQ c m x = true) {d : Nat} (hd : d ∈ lst m) (hf : y.p.f = (d : Int)) (hr : y.p.r = c d + 1) : x.p ≠ y.p ∧ Ord2 x y ∧ Oth x y := by
  have hy : y.p = ⟨c d + 1, (d : Int), y.p.s⟩ := by rw [← hf, ← hr]
  obtain ⟨k, hk, hkf, h1, h2⟩ := isQ_in hx
  refine ⟨fun e => ?_, fun ho _ => ?_, fun hff _ _ => ?_, fun k1 k2 k3 _ => ?_⟩
  · rw [e, hf] at hkf
    have : k = d := by omega
    subst this
    rw [e] at h2
    omega
  · rw [hy]
    exact svc2_new (ord_svc hx ho) hd
  · have : k = d := by rw [hf, hkf] at hff; omega
    subst this
    unfold Bef
    left
    omega
  · unfold isQ svOf at hx
    rw [if_pos k1, k3] at hx
    have := svc1_new hx hd
    omega
theorem rise_nod {q : List Wt} (h : q.Pairwise (fun a b => Bef a.p b.p)) : q.Pairwise (fun a b => a.p ≠ b.p) := h.imp fun h e => by rw [e] at h; exact Bef.irr _ h
theorem rise_one : ∀ {q : List Wt}, q.Pairwise (fun a b => Bef a.p b.p) → ∀ {x y : Wt}, x ∈ q → y ∈ q → x.p = y.p → x = y
  | [], _, _, _, h, _, _ => by cases h
  | w :: q, hq, x, y, hx, hy, e => by
    have hq' := List.pairwise_cons.1 hq
    rcases List.mem_cons.1 hx with h1 | h1 <;> rcases List.mem_cons.1 hy with h2 | h2
    · rw [h1, h2]
    · have := hq'.1 y h2
      rw [← h1, e] at this
      exact absurd this (Bef.irr _)
    · have := hq'.1 x h1
      rw [← h2, e] at this
      exact absurd this (Bef.irr _)
    · exact rise_one hq'.2 h1 h2 e
theorem rise_ord {q : List Wt} (h : q.Pairwise (fun a b => Bef a.p b.p)) : q.Pairwise Ord2 := h.imp fun h _ _ => h
theorem rise_oth {q : List Wt} (h : q.Pairwise (fun a b => Bef a.p b.p)) : q.Pairwise Oth := h.imp fun h => ⟨fun _ _ _ => h, fun _ _ _ _ => by unfold Bef at h; omega⟩
def up8 (c : Nat → Nat) (d : Nat) : Nat → Nat := fun i => if i = d then c d + 1 else c i
theorem up8_le (c : Nat → Nat) (d i : Nat) : c i ≤ up8 c d i := by unfold up8; split <;> (try subst_vars) <;> omega
theorem isQ_rise {c c' m : Nat → Nat} (h : ∀ i ∈ lst m, c i ≤ c' i) {x : Wt} (hx : isQ c m x = true) : isQ c' m x = true := svc_rise c c' m h _ _ hx
theorem addQ_len (f : Int) (r : Nat) : ∀ (l : List En) (i : Nat) (q p : List Wt), (∀ s : Int, (i : Int) ≤ s → hasP ⟨r, f, s⟩ q = false) → (∀ s : Int, (i : Int) ≤ s → hasP ⟨r, f, s⟩ p = false) → (addQ f r i l q).length + p.length = (addQ f r i l p).length + q.length
  | [], _, _, _, _, _ => by unfold addQ; omega
  | e :: l, i, q, p, hq, hp => by
    have hst : ∀ (q : List Wt), (∀ s : Int, (i : Int) ≤ s → hasP ⟨r, f, s⟩ q = false) → ∀ s : Int, ((i + 1 : Nat) : Int) ≤ s → hasP ⟨r, f, s⟩ (if noE e = true then q else addQ1 ⟨⟨r, f, (i : Int)⟩, e⟩ q) = false := by
      intro q hq s hs
      split
      · exact hq s (by omega)
      · cases hh : hasP ⟨r, f, s⟩ (addQ1 ⟨⟨r, f, (i : Int)⟩, e⟩ q) with
        | false => rfl
        | true =>
          obtain ⟨x, hx, hxp⟩ := (hasP_iff _ _).1 hh
          rcases (add1_mem _ _ _).1 hx with ⟨hx, _⟩ | hx
          · subst hx
            simp at hxp
            omega
          · have := hq s (by omega)
            rw [(hasP_iff _ _).2 ⟨x, hx, hxp⟩] at this
            cases this
    have ih := addQ_len f r l (i + 1) _ _ (hst q hq) (hst p hp)
    have hlen : ∀ (q : List Wt), (∀ s : Int, (i : Int) ≤ s → hasP ⟨r, f, s⟩ q = false) → (if noE e = true then q else addQ1 ⟨⟨r, f, (i : Int)⟩, e⟩ q).length = q.length + (if noE e = true then 0 else 1) := by
      intro q hq
      split
      · rfl
      · unfold addQ1
        rw [if_neg (by rw [hq _ (Int.le_refl _)]; simp), insQ_len]
    rw [hlen q hq, hlen p hp] at ih
    unfold addQ
    omega
/- The entries that are new are the same in both. -/
theorem addQ_same (f : Int) (r : Nat) : ∀ (l : List En) (i : Nat) (q p : List Wt) (x : Wt), (∀ s : Int, hasP ⟨r, f, s⟩ q = true → s < (i : Int)) → (∀ s : Int, (i : Int) ≤ s → hasP ⟨r, f, s⟩ p = false) → (∀ y ∈ q, y ∈ p) → x ∈ addQ f r i l q → x ∈ addQ f r i l p
  | [], _, _, _, x, _, _, hs, h => by unfold addQ at h ⊢; exact hs x h
  | e :: l, i, q, p, x, hq, hp, hs, h => by
    unfold addQ at h ⊢
    have hno : ∀ (q : List Wt) (s : Int), ((i + 1 : Nat) : Int) ≤ s → hasP ⟨r, f, s⟩ q = false → hasP ⟨r, f, s⟩ (addQ1 ⟨⟨r, f, (i : Int)⟩, e⟩ q) = false := by
      intro q s hs hq
      cases hh : hasP ⟨r, f, s⟩ (addQ1 ⟨⟨r, f, (i : Int)⟩, e⟩ q) with
      | false => rfl
      | true =>
        obtain ⟨y, hy, hyp⟩ := (hasP_iff _ _).1 hh
        rcases (add1_mem _ _ _).1 hy with ⟨hy, _⟩ | hy
        · subst hy
          simp at hyp
          omega
        · rw [(hasP_iff _ _).2 ⟨y, hy, hyp⟩] at hq
          cases hq
    refine addQ_same f r l (i + 1) _ _ x ?_ ?_ ?_ h
    · intro s hsq
      split at hsq
      · have := hq s hsq; omega
      · by_cases hlt : s < ((i + 1 : Nat) : Int)
        · exact hlt
        · exfalso
          cases hh : hasP ⟨r, f, s⟩ q with
          | true => have := hq s hh; omega
          | false =>
            rw [hno q s (by omega) hh] at hsq
            cases hsq
    · intro s hsp
      split
      · exact hp s (by omega)
      · exact hno p s hsp (hp s (by omega))
    · intro y hy
      split at hy
      · rename_i hz
        rw [if_pos hz]
        exact hs y hy
      · rename_i hz
        rw [if_neg hz]
        rw [add1_mem] at hy ⊢
        rcases hy with ⟨hy, _⟩ | hy
        · exact .inl ⟨hy, hp _ (Int.le_refl _)⟩
        · exact .inr (hs y hy)

/- A frame more: of a member's next round. -/
theorem JQ.step {m c : Nat → Nat} {A out q : List Wt} (j : JQ m c A out q) {d : Nat} (hd : d ∈ lst m) (l : List En) :
    JQ m (up8 c d) (addQ (d : Int) (c d + 1) 0 l A) (out ++ rdyQ (up8 c d) m true (addQ (d : Int) (c d + 1) 0 l q)) (rstQ (up8 c d) m true (addQ (d : Int) (c d + 1) 0 l q)) := by
  have hup : ∀ i ∈ lst m, c i ≤ up8 c d i := fun i _ => up8_le c d i
  have hnew : ∀ s : Int, hasP ⟨c d + 1, (d : Int), s⟩ A = false := fun s => by
    cases hh : hasP ⟨c d + 1, (d : Int), s⟩ A with
    | false => rfl
    | true =>
      obtain ⟨x, hx, hxp⟩ := (hasP_iff _ _).1 hh
      obtain ⟨k, _, hk, _, h2⟩ := j.mem x hx
      rw [hxp] at hk h2
      simp at hk h2
      have hk' : d = k := by omega
      subst hk'
      omega
  have hnewq : ∀ s : Int, hasP ⟨c d + 1, (d : Int), s⟩ q = false := fun s => by
    cases hh : hasP ⟨c d + 1, (d : Int), s⟩ q with
    | false => rfl
    | true =>
      obtain ⟨x, hx, hxp⟩ := (hasP_iff _ _).1 hh
      exact absurd (hnew s) (by rw [(hasP_iff _ _).2 ⟨x, j.inq x hx, hxp⟩]; simp)
  have hmayp := addQ_may (d : Int) (c d + 1) l 0 q j.mayq
  have hlen := addQ_len (d : Int) (c d + 1) l 0 q A (fun s _ => hnewq s) (fun s _ => hnew s)
  have hin : ∀ x ∈ addQ (d : Int) (c d + 1) 0 l q, x ∈ addQ (d : Int) (c d + 1) 0 l A := fun x hx => addQ_same _ _ l 0 q A x (fun s hs => by rw [hnewq s] at hs; cases hs) (fun s _ => hnew s) j.inq hx
  generalize hp : addQ (d : Int) (c d + 1) 0 l q = p at *
  have hpn : ∀ x ∈ p, x ∈ q ∨ (x.p.r = c d + 1 ∧ x.p.f = (d : Int)) := fun x hx => by
    rw [← hp] at hx
    rcases addQ_new _ _ _ _ _ _ hx with h | h
    · exact .inl h
    · exact .inr ⟨h.1, h.2.1⟩
  have hwas : ∀ x ∈ out, isQ (up8 c d) m x = true := fun x hx => isQ_rise hup (j.was x hx)
  have s1 := (rdy_sub (up8 c d) m p true)
  have s2 := (rst_sub (up8 c d) m p true)
  have hbeh : ∀ x ∈ out, ∀ y ∈ p, x.p ≠ y.p ∧ Ord2 x y ∧ Oth x y := fun x hx y hy => by
    rcases hpn y hy with h | ⟨h1, h2⟩
    · exact ⟨j.apart x hx y h, j.ordq x hx y h, j.othq x hx y h⟩
    · exact new_behind (j.was x hx) hd h2 h1
  have hmemA : ∀ x ∈ addQ (d : Int) (c d + 1) 0 l A, ∃ k ∈ lst m, x.p.f = (k : Int) ∧ 1 ≤ x.p.r ∧ x.p.r ≤ up8 c d k := fun x hx => by
    rcases addQ_new _ _ _ _ _ _ hx with h | ⟨h1, h2, _⟩
    · obtain ⟨k, hk, a, b, e⟩ := j.mem x h
      exact ⟨k, hk, a, b, Nat.le_trans e (up8_le c d k)⟩
    · exact ⟨d, hd, h2, by omega, by rw [h1]; unfold up8; simp⟩
  have hrise := hmayp.1
  refine ⟨addQ_may _ _ _ _ _ j.mayA, hmayp.sub s2, hmemA, ?_, ?_, fun x hx => hin x (s2.subset hx), ?_, ?_, ?_, ?_, ?_, ?_, ?_⟩
  · have h1 := rdy_rst (up8 c d) m p true
    have h2 := j.len
    rw [List.length_append]
    omega
  · intro x hx
    rcases List.mem_append.1 hx with h | h
    · exact addQ_keeps _ _ _ _ _ _ (j.ino x h)
    · exact hin x (s1.subset h)
  · rw [List.pairwise_append]
    exact ⟨j.nod, (rise_nod hrise).sublist s1, fun a ha b hb => (hbeh a ha b (s1.subset hb)).1⟩
  · intro x hx y hy
    rcases List.mem_append.1 hx with h | h
    · exact (hbeh x h y (s2.subset hy)).1
    · intro e
      have hxy : x = y := rise_one hrise (s1.subset h) (s2.subset hy) e
      subst hxy
      exact rdy_not _ _ _ _ _ hrise h hy
  · intro x hx
    rcases List.mem_append.1 hx with h | h
    · exact hwas x h
    · exact rdy_is _ _ _ _ _ h
  · rw [List.pairwise_append]
    exact ⟨j.ord, (rise_ord hrise).sublist s1, fun a ha b hb => (hbeh a ha b (s1.subset hb)).2.1⟩
  · intro x hx y hy
    rcases List.mem_append.1 hx with h | h
    · exact (hbeh x h y (s2.subset hy)).2.1
    · intro h1 h2
      exact rdy_ahead _ _ p true x y hrise h hy h1 h2
  · rw [List.pairwise_append]
    exact ⟨j.oth, (rise_oth hrise).sublist s1, fun a ha b hb => (hbeh a ha b (s1.subset hb)).2.2⟩
  · intro x hx y hy
    rcases List.mem_append.1 hx with h | h
    · exact (hbeh x h y (s2.subset hy)).2.2
    · have hxi := rdy_is _ _ _ _ _ h
      obtain ⟨ky, hky, hyf, hy1, hy2⟩ := hmemA y (hin y (s2.subset hy))
      have hyin := in_inB hky hyf hy1 hy2
      refine ⟨fun hf hsv hk => ?_, fun k1 k2 k3 k4 => ?_⟩
      · cases ho : ordB x.e with
        | true =>
          have hoy : ordB y.e = true := by unfold ordB at ho ⊢; rw [← hsv, ← hk]; exact ho
          exact rdy_ahead _ _ p true x y hrise h hy ho hoy
        | false =>
          have hoy : ordB y.e = false := by unfold ordB at ho ⊢; rw [← hsv, ← hk]; exact ho
          have hyn := rst_free _ _ _ _ _ hy hoy
          rcases Bef.total x.p y.p with k | k | k
          · exact k
          · exfalso
            have : isQ (up8 c d) m y = isQ (up8 c d) m x := by unfold isQ svOf; rw [← hsv, ← hk, k]
            rw [this, hxi] at hyn
            cases hyn
          · exfalso
            have hle : y.p.r ≤ x.p.r := by unfold Bef at k; omega
            have : isQ (up8 c d) m y = true := by
              unfold isQ svcB
              rw [Bool.and_eq_true]
              refine ⟨hyin, ?_⟩
              have hx2 := hxi
              unfold isQ svcB at hx2
              rw [Bool.and_eq_true] at hx2
              have hsvo : svOf y.e = svOf x.e := by unfold svOf; rw [hsv, hk]
              rw [hsvo]
              have hkd := hx2.2
              unfold ordB at ho
              simp at ho
              unfold svOf at hkd ⊢
              rw [if_pos ho.1] at hkd ⊢
              unfold kindB at hkd ⊢
              split
              · rfl
              · rename_i h0
                rw [if_neg h0] at hkd
                split
                · rename_i h1
                  rw [if_pos h1, decide_eq_true_eq] at hkd
                  rw [decide_eq_true_eq]
                  omega
                · rename_i h1
                  rw [if_neg h1, if_neg ho.2.1, if_neg ho.2.2] at hkd
                  cases hkd
            rw [this] at hyn
            cases hyn
      · apply Classical.byContradiction
        intro hlt
        have hoy : ordB y.e = false := by
          unfold ordB
          rcases k4 with k4 | k4 <;> simp [k2, k4]
        have hyn := rst_free _ _ _ _ _ hy hoy
        have : isQ (up8 c d) m y = true := by
          unfold isQ svcB svOf
          rw [if_pos k2, Bool.and_eq_true]
          refine ⟨hyin, ?_⟩
          rcases k4 with k4 | k4
          · rw [k4]; rfl
          · rw [k4, kind1, decide_eq_true_eq]
            have hx2 := hxi
            unfold isQ svcB svOf at hx2
            rw [if_pos k1, k3, Bool.and_eq_true, kind1, decide_eq_true_eq] at hx2
            omega
        rw [this] at hyn
        cases hyn
/- And at last a flush. -/
structure Dl (A d : List Wt) : Prop where
  len : d.length = A.length
  ino : ∀ x ∈ d, x ∈ A
  nod : d.Pairwise (fun a b => a.p ≠ b.p)
  ord : d.Pairwise Ord2
  oth : d.Pairwise Oth
theorem JQ.flush {m c : Nat → Nat} {A out q : List Wt} (j : JQ m c A out q) : Dl A (out ++ q) where
  len := by rw [List.length_append]; exact j.len
  ino x hx := by
    rcases List.mem_append.1 hx with h | h
    · exact j.ino x h
    · exact j.inq x h
  nod := List.pairwise_append.2 ⟨j.nod, rise_nod j.mayq.1, j.apart⟩
  ord := List.pairwise_append.2 ⟨j.ord, rise_ord j.mayq.1, j.ordq⟩
  oth := List.pairwise_append.2 ⟨j.oth, rise_oth j.mayq.1, j.othq⟩
/- Where all that is behind is full nothing waits. -/
theorem isQ_full {m c : Nat → Nat} {w : Wt} (hc : ∀ i, i < 8 → c i = 1002) {d : Nat} (hd : d ∈ lst m) (hf : w.p.f = (d : Int)) (h1 : 1 ≤ w.p.r) (h2 : w.p.r ≤ 1000) (hs : w.e.k = 1 → 0 ≤ w.e.sv ∧ w.e.sv ≤ 3) : isQ c m w = true := by
  have hd8 := ((mem_lst m d).1 hd).1
  have hl : 1002 ≤ leastC c m := by
    rw [leastC_all c m d _ hd]
    intro e he
    rw [hc e ((mem_lst m e).1 he).1]
    exact Nat.le_refl _
  unfold isQ svcB
  rw [Bool.and_eq_true]
  refine ⟨in_inB hd hf h1 (by rw [hc d hd8]; omega), ?_⟩
  have hlow : lowB c m w.p = true := by
    rw [lowB_iff]
    intro e he _
    rw [hc e ((mem_lst m e).1 he).1]
    omega
  have hk : ∀ s : Int, 0 ≤ s → s ≤ 3 → kindB c m w.p s = true := by
    intro s a b
    have : s = 0 ∨ s = 1 ∨ s = 2 ∨ s = 3 := by omega
    rcases this with rfl | rfl | rfl | rfl
    · rfl
    · rw [kind1, decide_eq_true_eq]; omega
    · rw [kind2, hlow, Bool.and_true, decide_eq_true_eq]; omega
    · rw [kind3, decide_eq_true_eq]; omega
  unfold svOf
  split
  · rename_i h
    exact hk _ (hs h).1 (hs h).2
  · exact hk 2 (by omega) (by omega)

end Go.Proofs.Ytmnpbjaofemelaa
