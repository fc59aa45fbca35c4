/-
  Of the texts beneath these laws, in their order: ClJ, ClK.
  Each theorem says its own conditions.
-/
import Derived.Test.YthgfpdidilolgaaGreatZ05
namespace Go.Proofs.YthgfpdidilolgaaGreat
set_option maxRecDepth 10000
open Go.RowKit Go.Sort
theorem to_app {T : List Td} {t : Td} (h : ∀ A b B, T = A ++ b :: B → TO A b) (k : TO T t) : ∀ A b B, T ++ [t] = A ++ b :: B → TO A b := by
 intro A b B e
 rcases List.eq_nil_or_concat B with rfl | ⟨B', x, rfl⟩
 ·obtain ⟨e1, e2⟩ := List.append_inj' e rfl
  cases e2
  rw [← e1]
  exact k
 ·have e' : T ++ [t] = (A ++ b :: B') ++ [x] := by rw [e]; simp
  exact h A b B' (List.append_inj' e' rfl).1
theorem TA.mono {n : Nat} {G G' : List Gh} {T : List Td} {t : Td} (k : TA n G T t) (h : ∀ g ∈ G, g ∈ G') (hf : ∀ X m m', Gh.pw X m ∈ G' → Gh.pw X m' ∈ G' → ∀ q, q < 8 → m q = m' q) (u : List Td)
  (hu : t.h.view = true → ∀ q, q < 8 → cnt u t.who t.inc t.inn q = 0) : TA n G' (T ++ u) t where
 who := k.who
 inn := by
  obtain ⟨m, a, b⟩ := k.inn
  exact ⟨m, a.mono h, b⟩
 vm := fun e => by
  obtain ⟨a, b, d, K, x, y⟩ := k.vm e
  exact ⟨a, b, d.mono h, K, h _ x, fun q hq => by rw [cnt_app, hu e q hq, Nat.add_zero]; exact y q hq⟩
 fr := k.fr
 sf := fun e e' m hm d hd hn => by
  obtain ⟨m0, a, _⟩ := k.inn
  obtain ⟨x, a1, a2⟩ := a
  obtain ⟨y, b1, b2⟩ := hm
  have := k.sf e e' m0 ⟨x, a1, a2⟩ d hd (by rw [a2 d hd, hf _ x y (h _ a1) b1 d hd, ← b2 d hd]; exact hn)
  rw [cnt_app]
  omega
 viw := fun e => by
  obtain ⟨b, x, y⟩ := k.viw e
  exact ⟨b, List.mem_append_left _ x, y⟩
 ini := fun e => ⟨(k.ini e).1.mono h, (k.ini e).2⟩
theorem GI.grow {n : Nat} {G G' : List Gh} {T : List Td} (g : GI n G T) (h : ∀ x ∈ G, x ∈ G')
  (f1 : ∀ X m m', Gh.pw X m ∈ G' → Gh.pw X m' ∈ G' → ∀ q, q < 8 → m q = m' q)
  (f0 : ∀ X m, Gh.pw X m ∈ G' → X.e = 0 → X.c < n ∧ ∀ q, q < 8 → m q = put8 noMb X.c X.i q)
  (f2 : ∀ d k X I C I' C', Gh.pr d k X I C ∈ G' → Gh.pr d k X I' C' ∈ G' → I = I' ∧ ∀ q, q < 8 → C q = C' q)
  (g7 : ∀ d k X, Gh.ins d k X ∈ G' → Gh.ins d k X ∈ G ∨ ∃ m, Gh.pw X m ∈ G' ∧ ∀ d, d < 8 → m d ≠ 0 → ∃ I K, Gh.rk d (m d) X I K ∈ G')
  (g10 : ∀ i k X I K, Gh.rk i k X I K ∈ G' → Gh.rk i k X I K ∈ G ∨ ∃ m, Gh.pw X m ∈ G' ∧ (∀ d, d < 8 → m d ≠ 0 → ∃ I' C, Gh.pr d (m d) X I' C ∈ G' ∧ (I' = I → ∀ q, q < 8 → C q ≤ K q)) ∧
   ∀ q, q < 8 → ∃ d, d < 8 ∧ m d ≠ 0 ∧ ∃ C, Gh.pr d (m d) X I C ∈ G' ∧ K q = C q)
  (snt : ∀ x, Gh.sn x ∈ G' → Gh.sn x ∈ G ∨ ∀ p, Like p x → PI G' T p) : GI n G' T where
 f1 := f1
 f0 := f0
 f2 := f2
 g7 := fun d k X e => by
  rcases g7 d k X e with a | a
  ·obtain ⟨m, b, b'⟩ := g.g7 d k X a
   exact ⟨m, h _ b, fun d hd hn => by obtain ⟨I, K, x⟩ := b' d hd hn; exact ⟨I, K, h _ x⟩⟩
  ·exact a
 g10 := fun i k X I K e => by
  rcases g10 i k X I K e with a | a
  ·obtain ⟨m, b, b1, b2⟩ := g.g10 i k X I K a
   exact ⟨m, h _ b, fun d hd hn => by obtain ⟨I', C, x, y⟩ := b1 d hd hn; exact ⟨I', C, h _ x, y⟩, fun q hq => by obtain ⟨d, hd, hn, C, x, y⟩ := b2 q hq; exact ⟨d, hd, hn, C, h _ x, y⟩⟩
  ·exact a
 snt := fun x e p hp => by
  rcases snt x e with a | a
  ·have := (g.snt x a p hp).mono h []
   rw [List.append_nil] at this
   exact this
  ·exact a p hp
 tt := g.tt
 ta := fun t ht => by
  have := (g.ta t ht).mono h f1 [] fun _ _ _ => rfl
  rw [List.append_nil] at this
  exact this
theorem GI.tell {n : Nat} {G : List Gh} {T : List Td} {t : Td} (g : GI n G T) (hto : TO T t) (ta : TA n G (T ++ [t]) t) (hv : ∀ b ∈ T, b.h.view = true → ∀ q, q < 8 → cntB b.who b.inc b.inn q t = false) : GI n G (T ++ [t]) where
 f1 := g.f1
 f0 := g.f0
 f2 := g.f2
 g7 := g.g7
 g10 := g.g10
 snt := fun x e p hp => (g.snt x e p hp).mono (fun _ h => h) [t]
 tt := to_app g.tt hto
 ta := fun b hb => by
  rcases List.mem_append.1 hb with a | a
  ·exact (g.ta b a).mono (fun _ h => h) g.f1 [t] fun e q hq => by rw [cnt_one, hv b a e q hq]; rfl
  ·cases List.mem_singleton.1 a
   exact ta
theorem CI.more {i : Nat} {c : Co} {L : List Kt} {G G' : List Gh} {T : List Td} (k : CI i c L G T) (h : ∀ g ∈ G, g ∈ G') (hn : ∀ g ∈ G', g ∈ G ∨ g.off i) : CI i c L G' T := by
 have := k.mono h hn (u := []) fun _ h => by cases h
 rw [List.append_nil] at this
 exact this
theorem tl {g : Gh} {G : List Gh} : ∀ x ∈ G, x ∈ g :: G := fun _ h => List.mem_cons_of_mem _ h
theorem off_cons {g : Gh} {G : List Gh} {i : Nat} (h : g.off i) : ∀ x ∈ g :: G, x ∈ G ∨ x.off i := fun x hx => by
 rcases List.mem_cons.1 hx with rfl | a
 ·exact .inr h
 ·exact .inl a
theorem At.beat {n : Nat} {s : Nat → Co × List Kt} {i : Nat} {c : Co} {L : List Kt} {G : List Gh} {T : List Td} (h : At n s i c L G T) (b : Bt) : At n s i (c.wBeat b) L G T :=
 ⟨h.hi, h.hn, h.g, h.o, ⟨h.c.self, h.c.own, h.c.le, h.c.ep, h.c.wi, h.c.mi, h.c.pw1, h.c.pw2, h.c.peers, h.c.g0, h.c.g1, h.c.g2, h.c.g3, h.c.g4, h.c.ins, h.c.ini, h.c.viw, h.c.kept, h.c.kp1, h.c.kp2, h.c.cn, h.c.t4, h.c.t2, h.c.gp, h.c.gr, h.c.gk⟩⟩
theorem At.mint {n : Nat} {s : Nat → Co × List Kt} {i : Nat} {c : Co} {L : List Kt} {G : List Gh} {T : List Td} (h : At n s i c L G T) (m : Nat → Nat) : At n s i (c.wEpoch (c.epoch + 1)) L (.pw ⟨c.epoch + 1, i, c.own⟩ m :: G) T := by
 have k := h.c
 refine ⟨h.hi, h.hn, h.g.grow tl ?_ ?_ ?_ ?_ ?_ ?_, fun j hj hne => (h.o j hj hne).more tl (off_cons (off_pw (Ne.symm hne))), ?_⟩
 ·intro X m1 m2 e1 e2 q hq
  rcases List.mem_cons.1 e1 with a | a <;> rcases List.mem_cons.1 e2 with b | b
  ·cases a; cases b; rfl
  ·cases a
   have := (k.gp _ _ b rfl).2 rfl
   simp at this
   omega
  ·cases b
   have := (k.gp _ _ a rfl).2 rfl
   simp at this
   omega
  ·exact h.g.f1 X m1 m2 a b q hq
 ·intro X m1 e1 e0
  rcases List.mem_cons.1 e1 with a | a
  ·cases a; cases e0
  ·exact h.g.f0 X m1 a e0
 ·intro d k X I C I' C' e1 e2
  rcases List.mem_cons.1 e1 with a | a <;> rcases List.mem_cons.1 e2 with b | b
  ·cases a
  ·cases a
  ·cases b
  ·exact h.g.f2 d k X I C I' C' a b
 ·intro d k X e
  rcases List.mem_cons.1 e with a | a
  ·cases a
  ·exact .inl a
 ·intro d k X I K e
  rcases List.mem_cons.1 e with a | a
  ·cases a
  ·exact .inl a
 ·intro x e
  rcases List.mem_cons.1 e with a | a
  ·cases a
  ·exact .inl a
 ·exact {
   self := k.self
   own := k.own
   le := k.le
   ep := Nat.le_succ_of_le k.ep
   wi := k.wi
   mi := k.mi
   pw1 := k.pw1.mono tl
   pw2 := k.pw2.mono tl
   peers := fun d hd => (k.peers d hd).mono tl
   g0 := fun e => ⟨(k.g0 e).1, (k.g0 e).2.mono tl⟩
   g1 := fun e e' q hq => by
    rcases k.g1 e e' q hq with a | ⟨d, hd, a, C, b, b'⟩
    ·exact .inl a
    ·exact .inr ⟨d, hd, a, C, b.mono tl, b'⟩
   g2 := fun e => by
    obtain ⟨a, K, b, b'⟩ := k.g2 e
    exact ⟨a, K, tl _ b, b'⟩
   g3 := fun I K e => k.g3 I K (by rcases List.mem_cons.1 e with a | a; (· cases a); exact a)
   g4 := k.g4
   ins := fun e => tl _ (k.ins e)
   ini := k.ini
   viw := k.viw
   kept := k.kept
   kp1 := k.kp1
   kp2 := k.kp2
   cn := k.cn
   t4 := k.t4
   t2 := k.t2
   gp := fun X m' e ec => by
    rcases List.mem_cons.1 e with a | a
    ·cases a
     exact ⟨Nat.le_refl _, fun _ => Nat.le_refl _⟩
    ·exact ⟨(k.gp X m' a ec).1, fun e => Nat.le_succ_of_le ((k.gp X m' a ec).2 e)⟩
   gr := fun n' X I C e => by
    rcases List.mem_cons.1 e with a | a
    ·cases a
    ·exact k.gr n' X I C a
   gk := fun n' X I K e => by
    rcases List.mem_cons.1 e with a | a
    ·cases a
    ·exact k.gk n' X I K a }
theorem le_lt {a b c : Idn} (h : ¬ b.lt a) (k : b.lt c) : a.lt c := by unfold Idn.lt at *; omega
theorem At.prom {n : Nat} {s : Nat → Co × List Kt} {i : Nat} {c : Co} {L : List Kt} {G : List Gh} {T : List Td} (h : At n s i c L G T) {X : Idn} {m : Nat → Nat} (hX : c.pr.lt X) (he : X.e ≤ c.epoch) (h0 : X.e ≠ 0) (hm : m i = c.own) (hp : PW G X m) :
  At n s i (promC c X m) L (.pr i c.own X c.conf c.count :: G) T := by
 have k := h.c
 refine ⟨h.hi, h.hn, h.g.grow tl ?_ ?_ ?_ ?_ ?_ ?_, fun j hj hne => (h.o j hj hne).more tl (off_cons (off_pr (Ne.symm hne))), ?_⟩
 ·intro X m1 m2 e1 e2 q hq
  rcases List.mem_cons.1 e1 with a | a <;> rcases List.mem_cons.1 e2 with b | b
  ·cases a
  ·cases a
  ·cases b
  ·exact h.g.f1 X m1 m2 a b q hq
 ·intro X m1 e1 e0
  rcases List.mem_cons.1 e1 with a | a
  ·cases a
  ·exact h.g.f0 X m1 a e0
 ·intro d k' X I C I' C' e1 e2
  rcases List.mem_cons.1 e1 with a | a <;> rcases List.mem_cons.1 e2 with b | b
  ·cases a; cases b; exact ⟨rfl, fun _ _ => rfl⟩
  ·cases a
   exact absurd hX ((k.gr _ _ _ _ b).2 rfl)
  ·cases b
   exact absurd hX ((k.gr _ _ _ _ a).2 rfl)
  ·exact h.g.f2 d k' X I C I' C' a b
 ·intro d k X e
  rcases List.mem_cons.1 e with a | a
  ·cases a
  ·exact .inl a
 ·intro d k X I K e
  rcases List.mem_cons.1 e with a | a
  ·cases a
  ·exact .inl a
 ·intro x e
  rcases List.mem_cons.1 e with a | a
  ·cases a
  ·exact .inl a
 ·exact {
   self := k.self
   own := k.own
   le := Idn.lt_asymm (le_lt k.le hX)
   ep := he
   wi := hm
   mi := k.mi
   pw1 := hp.mono tl
   pw2 := k.pw2.mono tl
   peers := fun d hd => (k.peers d hd).mono tl
   g0 := fun _ => ⟨h0, c.count, List.mem_cons_self, fun _ _ => rfl⟩
   g1 := fun _ _ _ _ => .inl rfl
   g2 := fun e => by cases e
   g3 := fun I K e => by
    rcases List.mem_cons.1 e with a | a
    ·cases a
    ·exact absurd hX ((k.gk _ _ _ _ a).2 rfl)
   g4 := fun _ _ _ => Nat.le_refl _
   ins := fun e => tl _ (k.ins e)
   ini := k.ini
   viw := k.viw
   kept := k.kept
   kp1 := k.kp1
   kp2 := k.kp2
   cn := k.cn
   t4 := k.t4
   t2 := k.t2
   gp := fun X m' e ec => by
    rcases List.mem_cons.1 e with a | a
    ·cases a
    ·exact k.gp X m' a ec
   gr := fun n' Y I C e => by
    rcases List.mem_cons.1 e with a | a
    ·cases a
     exact ⟨Nat.le_refl _, fun _ => Idn.lt_irrefl _⟩
    ·exact ⟨(k.gr n' Y I C a).1, fun e => Idn.lt_asymm (le_lt ((k.gr n' Y I C a).2 e) hX)⟩
   gk := fun n' Y I K e => by
    rcases List.mem_cons.1 e with a | a
    ·cases a
    ·exact ⟨(k.gk n' Y I K a).1, fun e => Idn.lt_asymm (le_lt ((k.gk n' Y I K a).2 e) hX)⟩ }
theorem At.hear {n : Nat} {s : Nat → Co × List Kt} {i : Nat} {c : Co} {L : List Kt} {G : List Gh} {T : List Td} (h : At n s i c L G T) {p : Pk} (hp : PI G T p) : At n s i (hearC c p) L G T := by
 have k := h.c
 exact ⟨h.hi, h.hn, h.g, h.o, {
   self := k.self
   own := k.own
   le := k.le
   ep := Nat.le_trans k.ep (Nat.le_max_left _ _)
   wi := k.wi
   mi := k.mi
   pw1 := k.pw1
   pw2 := k.pw2
   peers := fun d hd => by
    show PeI G d (putP c.peers (p.n 0) (updP (c.peers (p.n 0)) (told p)) d)
    unfold putP
    split
    ·rename_i e
     subst e
     exact (k.peers _ hd).upd h.g hp.pe
    ·exact k.peers d hd
   g0 := k.g0
   g1 := k.g1
   g2 := k.g2
   g3 := k.g3
   g4 := k.g4
   ins := k.ins
   ini := k.ini
   viw := k.viw
   kept := k.kept
   kp1 := k.kp1
   kp2 := k.kp2
   cn := k.cn
   t4 := k.t4
   t2 := k.t2
   gp := fun X m e ec => ⟨(k.gp X m e ec).1, fun e' => Nat.le_trans ((k.gp X m e ec).2 e') (Nat.le_max_left _ _)⟩
   gr := k.gr
   gk := k.gk }⟩
theorem at_last {T : List Td} {b : Td} (h : b ∈ T) : ∃ A B, T = A ++ b :: B := List.append_of_mem h
theorem At.inc {n : Nat} {s : Nat → Co × List Kt} {i : Nat} {c : Co} {L : List Kt} {G : List Gh} {T : List Td} (h : At n s i c L G T) {b : Td} (hb : b ∈ T) (hw : b.who = i) (hc : b.inn = c.conf) : b.inc = c.own := by
 obtain ⟨m, a, e⟩ := (h.g.ta b hb).inn
 rw [hc] at a
 rw [← e, hw, PW.same h.g a h.c.pw2 i (Nat.lt_of_lt_of_le h.hi h.hn)]
 exact h.c.mi
theorem At.take {n : Nat} {s : Nat → Co × List Kt} {i : Nat} {c : Co} {L : List Kt} {G : List Gh} {T : List Td} (h : At n s i c L G T) {x : Kt} {q : Nat} (hq : q < 8) (hx : x.fr = (q : Int)) (hr : x.rd = c.count q + 1)
  (ho : (q = i ∧ ∀ d, d < 8 → c.mem d ≠ 0 → c.count i ≤ c.count d) ∨ Own T c.conf q x.rd x.f)
  (hg : c.pr ≠ c.conf → c.rdy = false ∧ ∃ d, d < 8 ∧ c.want d ≠ 0 ∧ ∃ C, PR G d (c.want d) c.pr c.conf C ∧ x.rd ≤ C q) :
  At n s i (c.wCount (takeC c.count x)) (takeL L x) G (T ++ [⟨i, c.own, c.conf, takeH x⟩]) := by
 have k := h.c
 have hi8 : i < 8 := Nat.lt_of_lt_of_le h.hi h.hn
 have eq : x.fr.toNat = q := by rw [hx]; rfl
 have ec : ∀ d, takeC c.count x d = if d = q then x.rd else c.count d := fun d => by unfold takeC put8; rw [eq]
 -- nobody of this daemon told it yet
 have hno : ∀ b ∈ T, b.h.view = false → b.inn = c.conf → b.h.k.fr = x.fr → b.h.k.rd = x.rd → b.who ≠ i := fun b hb hv hc hf hd hw => by
  have := k.t2 b hb hw (h.inc hb hw hc) hc hv
  rw [hf, eq] at this
  omega
 have hcnt : ∀ (j m : Nat) (I : Idn) (d : Nat), cntB j m I d ⟨i, c.own, c.conf, takeH x⟩ = true ↔ i = j ∧ c.own = m ∧ c.conf = I ∧ d = q := fun j m I d => by
  rw [cntB_iff]
  constructor
  ·rintro ⟨a, b, e, _, f⟩
   have f' : x.fr = (d : Int) := f
   exact ⟨a, b, e, by rw [hx] at f'; omega⟩
  ·rintro ⟨a, b, e, f⟩
   exact ⟨a, b, e, rfl, by show x.fr = _; rw [hx, f]⟩
 have hu : ∀ (j m : Nat) (I : Idn) (d : Nat), ¬ (i = j ∧ c.own = m ∧ c.conf = I ∧ d = q) → cnt [⟨i, c.own, c.conf, takeH x⟩] j m I d = 0 := fun j m I d hne => by
  rw [cnt_one, if_neg fun e => hne ((hcnt j m I d).1 e)]
 have hmono : ∀ d, c.count d ≤ takeC c.count x d := fun d => by
  rw [ec]
  split
  ·rename_i e; subst e; omega
  ·exact Nat.le_refl _
 have hto : TO T ⟨i, c.own, c.conf, takeH x⟩ := {
  v := fun e => by cases e
  o := fun _ => by
   rcases ho with ⟨e, _⟩ | ⟨b, hb, e1, e2, e3, e4, e5, _⟩
   ·left
    show x.fr = (i : Int)
    rw [hx, e]
   ·right
    refine ⟨b, hb, ⟨e1, e3, by rw [e4]; exact hx.symm, e5⟩, ?_⟩
    show x.fr = (b.who : Int)
    rw [hx, e2]
  c := fun _ d e => by
   have e' : x.fr = (d : Int) := e
   have hd : d = q := by rw [hx] at e'; omega
   subst hd
   show x.rd = cnt T i c.own c.conf d + 1
   rw [k.cn d hq]
   exact hr
  f := fun _ b hb ⟨e1, e2, e3, e4⟩ => by
   refine ⟨?_, hno b hb e1 e2 e3 e4⟩
   -- the one that its daemon told
   have hown : ∃ o ∈ T, keyed b o ∧ b.h.k.fr = (o.who : Int) ∧ ∀ j, j < 6 → o.h.k.f j = b.h.k.f j := by
    obtain ⟨A, B, eT⟩ := at_last hb
    have tb := h.g.tt A b B eT
    rcases tb.o e1 with a | ⟨o, ho, a, a'⟩
    ·exact ⟨b, hb, ⟨e1, rfl, rfl, rfl⟩, a, fun _ _ => rfl⟩
    ·exact ⟨o, by rw [eT]; exact List.mem_append_left _ ho, a, a', (tb.f e1 o ho a).1⟩
   obtain ⟨o, hoT, ⟨k1, k2, k3, k4⟩, k5, k6⟩ := hown
   rcases ho with ⟨e, _⟩ | ⟨b', hb', f1, f2, f3, f4, f5, f6⟩
   ·have e3' : b.h.k.fr = x.fr := e3
    have : o.who = i := by rw [e3', hx, e] at k5; omega
    exact absurd this (hno o hoT k1 (k2.trans e2) (k3.trans e3') (k4.trans e4))
   ·intro j hj
    show b.h.k.f j = x.f j
    rw [← k6 j hj, ← f6 j hj]
    have ew : o.who = b'.who := by
     have e3' : b.h.k.fr = x.fr := e3
     rw [e3', hx] at k5
     omega
    have ek : keyed b' o := ⟨k1, by rw [k2, f3]; exact e2, by rw [k3, f4, ← hx]; exact e3, by rw [k4, f5]; exact e4⟩
    have ek' : keyed o b' := ⟨f1, ek.2.1.symm, ek.2.2.1.symm, ek.2.2.2.symm⟩
    obtain ⟨A, B, eT⟩ := at_last hoT
    have tO := h.g.tt A o B eT
    rw [eT] at hb'
    rcases List.mem_append.1 hb' with a | a
    ·exact absurd ew.symm (tO.f k1 b' a ek').2
    ·rcases List.mem_cons.1 a with a | a
     ·rw [a]
     ·obtain ⟨A2, B2, eB⟩ := List.append_of_mem a
      have tB := h.g.tt (A ++ o :: A2) b' B2 (by rw [eT, eB]; simp)
      exact absurd ew (tB.f f1 o (by simp) ek).2 }
 have hta : TA n G (T ++ [⟨i, c.own, c.conf, takeH x⟩]) ⟨i, c.own, c.conf, takeH x⟩ := {
  who := h.hi
  inn := ⟨c.mem, k.pw2, k.mi⟩
  vm := fun e => by cases e
  fr := fun _ => ⟨q, hq, hx⟩
  sf := fun _ e m hm d hd hn => by
   have e' : x.fr = (i : Int) := e
   have eqi : q = i := by rw [hx] at e'; omega
   have hmd : c.mem d ≠ 0 := by rw [PW.same h.g k.pw2 hm d hd]; exact hn
   show x.rd ≤ cnt (T ++ _) i c.own c.conf d + 1
   rw [cnt_app, k.cn d hd]
   rcases ho with ⟨_, a⟩ | ⟨b', hb', f1, f2, f3, f4, f5, _⟩
   ·have := a d hd hmd
    rw [eqi] at hr
    omega
   ·exact absurd (f2.trans eqi) (hno b' hb' f1 f3 (f4.trans hx.symm) f5)
  viw := fun e => by
   obtain ⟨t, a, b⟩ := k.viw e
   exact ⟨t, List.mem_append_left _ a, b⟩
  ini := fun e => by
   obtain ⟨a, b⟩ := k.ini e
   obtain ⟨m, y, z⟩ := k.pw2
   refine ⟨⟨m, y, fun d hd => ?_⟩, ?_⟩
   ·show put8 noMb c.conf.c c.conf.i d = m d
    rw [← z d hd, b d hd, a]
   ·show c.conf.c < n
    rw [a]
    exact h.hi }
 refine ⟨h.hi, h.hn, h.g.tell hto hta fun b hb hv d hd => ?_, fun j hj hne => (h.o j hj hne).mono (fun _ h => h) (fun _ h => .inl h) (u := [⟨i, c.own, c.conf, takeH x⟩]) fun t ht => by cases List.mem_singleton.1 ht; exact Ne.symm hne, ?_⟩
 ·cases hb' : cntB b.who b.inc b.inn d ⟨i, c.own, c.conf, takeH x⟩ with
  | false => rfl
  | true =>
   obtain ⟨e1, e2, e3, _⟩ := (hcnt _ _ _ _).1 hb'
   have h1 := ((k.t4 b hb e1.symm).2 e2.symm).2 hv
   have h2 := ((h.g.ta b hb).vm hv).2.1
   rw [← e3] at h2
   exact absurd h2 h1
 ·exact {
   self := k.self
   own := k.own
   le := k.le
   ep := k.ep
   wi := k.wi
   mi := k.mi
   pw1 := k.pw1
   pw2 := k.pw2
   peers := k.peers
   g0 := k.g0
   g1 := fun e e' d hd => by
    show takeC c.count x d = c.cut d ∨ ∃ d', d' < 8 ∧ c.want d' ≠ 0 ∧ ∃ C, PR G d' (c.want d') c.pr c.conf C ∧ takeC c.count x d ≤ C d
    rw [ec]
    split
    ·rename_i e
     subst e
     exact .inr (hg e).2
    ·exact k.g1 e e' d hd
   g2 := fun e => by
    have a := k.g2 e
    have := (hg a.1).1
    rw [show c.rdy = true from e] at this
    cases this
   g3 := k.g3
   g4 := fun e d hd => Nat.le_trans (k.g4 e d hd) (hmono d)
   ins := k.ins
   ini := k.ini
   viw := fun e => by
    obtain ⟨t, a, b⟩ := k.viw e
    exact ⟨t, List.mem_append_left _ a, b⟩
   kept := fun y hy => by
    unfold takeL young at hy
    rcases List.mem_append.1 hy with a | a
    ·obtain ⟨d, a1, a2, a3⟩ := k.kept y (List.mem_filter.1 a).1
     exact ⟨d, a1, a2, a3.mono _⟩
    ·cases List.mem_singleton.1 a
     refine ⟨q, hq, hx, ?_⟩
     rcases ho with ⟨e, _⟩ | a
     ·exact ⟨_, List.mem_append_right _ (List.mem_singleton.2 rfl), rfl, e.symm, rfl, hx, rfl, fun _ _ => rfl⟩
     ·exact a.mono _
   kp1 := fun e => by
    have e' : 1 ≤ takeC c.count x i := e
    show ∃ y ∈ takeL L x, y.fr = (i : Int) ∧ y.rd = takeC c.count x i
    rw [ec] at e' ⊢
    split
    ·rename_i e
     exact ⟨x, List.mem_append_right _ (List.mem_singleton.2 rfl), by rw [hx, e], rfl⟩
    ·rename_i hne
     rw [if_neg hne] at e'
     obtain ⟨y, a, b, d⟩ := k.kp1 e'
     refine ⟨y, List.mem_append_left _ (List.mem_filter.2 ⟨a, ?_⟩), b, d⟩
     simp only [oldB, Bool.not_eq_true', decide_eq_false_iff_not]
     rintro ⟨e1, _⟩
     rw [b, hx] at e1
     omega
   kp2 := fun e => by
    have e' : 2 ≤ takeC c.count x i := e
    show ∃ y ∈ takeL L x, y.fr = (i : Int) ∧ y.rd + 1 = takeC c.count x i
    rw [ec] at e' ⊢
    split
    ·rename_i e
     rw [if_pos e] at e'
     subst e
     obtain ⟨y, a, b, d⟩ := k.kp1 (by omega)
     refine ⟨y, List.mem_append_left _ (List.mem_filter.2 ⟨a, ?_⟩), b, by omega⟩
     simp only [oldB, Bool.not_eq_true', decide_eq_false_iff_not]
     rintro ⟨_, e2⟩
     omega
    ·rename_i hne
     rw [if_neg hne] at e'
     obtain ⟨y, a, b, d⟩ := k.kp2 e'
     refine ⟨y, List.mem_append_left _ (List.mem_filter.2 ⟨a, ?_⟩), b, d⟩
     simp only [oldB, Bool.not_eq_true', decide_eq_false_iff_not]
     rintro ⟨e1, _⟩
     rw [b, hx] at e1
     omega
   cn := fun d hd => by
    show cnt (T ++ _) i c.own c.conf d = takeC c.count x d
    rw [cnt_app, k.cn d hd, ec, cnt_one]
    by_cases e : d = q
    ·rw [if_pos ((hcnt _ _ _ _).2 ⟨rfl, rfl, rfl, e⟩), if_pos e, hr, e]
    ·rw [if_neg fun a => e ((hcnt _ _ _ _).1 a).2.2.2, if_neg e, Nat.add_zero]
   t4 := fun t ht hw => by
    rcases List.mem_append.1 ht with a | a
    ·exact k.t4 t a hw
    ·cases List.mem_singleton.1 a
     exact ⟨Nat.le_refl _, fun _ => ⟨Idn.lt_irrefl _, fun e => by cases e⟩⟩
   t2 := fun t ht hw h1 h2 h3 => by
    rcases List.mem_append.1 ht with a | a
    ·exact Nat.le_trans (k.t2 t a hw h1 h2 h3) (hmono _)
    ·cases List.mem_singleton.1 a
     show x.rd ≤ takeC c.count x x.fr.toNat
     rw [ec, if_pos eq]
     exact Nat.le_refl _
   gp := k.gp
   gr := k.gr
   gk := k.gk }
end Go.Proofs.YthgfpdidilolgaaGreat
namespace Go.Proofs.YthgfpdidilolgaaGreat
set_option maxRecDepth 10000
open Go.RowKit Go.Sort
theorem targ_ge (c : Co) (q : Nat) : ∀ (L : List Nat) (u : Nat → Nat), u q ≤ (L.foldl (targS c) u) q ∧ ∀ d ∈ L, goesB c d = true → (c.peers d).cut q ≤ (L.foldl (targS c) u) q
 | [], u => ⟨Nat.le_refl _, fun _ h => by cases h⟩
 | d :: L, u => by
  obtain ⟨a, b⟩ := targ_ge c q L (targS c u d)
  have hu : u q ≤ targS c u d q := by
   unfold targS
   split
   ·exact Nat.le_max_left _ _
   ·exact Nat.le_refl _
  refine ⟨Nat.le_trans hu a, fun e he hg => ?_⟩
  rcases List.mem_cons.1 he with rfl | he
  ·refine Nat.le_trans ?_ a
   unfold targS
   rw [if_pos hg]
   exact Nat.le_max_right _ _
  ·exact b e he hg
theorem targ_is (c : Co) (q : Nat) : ∀ (L : List Nat) (u : Nat → Nat), (L.foldl (targS c) u) q = u q ∨ ∃ d ∈ L, goesB c d = true ∧ (L.foldl (targS c) u) q = (c.peers d).cut q
 | [], _ => .inl rfl
 | d :: L, u => by
  rcases targ_is c q L (targS c u d) with a | ⟨e, he, a, b⟩
  ·by_cases hg : goesB c d = true
   ·rw [List.foldl_cons, a]
    unfold targS
    rw [if_pos hg]
    rcases Nat.le_total (u q) ((c.peers d).cut q) with h | h
    ·exact .inr ⟨d, List.mem_cons_self, hg, Nat.max_eq_right h⟩
    ·exact .inl (Nat.max_eq_left h)
   ·rw [List.foldl_cons, a]
    unfold targS
    rw [if_neg hg]
    exact .inl rfl
  ·exact .inr ⟨e, List.mem_cons_of_mem _ he, a, b⟩
theorem gathB_iff (c : Co) : gathB c = true ↔ c.pr ≠ c.conf := by
 unfold gathB
 rw [Bool.not_eq_true', ← Bool.not_eq_true, Idn.same_iff]
theorem goesB_iff (c : Co) (d : Nat) : goesB c d = true ↔ (c.peers d).inc = c.want d ∧ (c.peers d).conf = c.conf ∧ (c.peers d).pr = c.pr := by
 unfold goesB matB
 rw [Bool.and_eq_true, Bool.and_eq_true, decide_eq_true_eq, Idn.same_iff, Idn.same_iff, and_assoc]
theorem each_iff (c : Co) (f : Pe → Bool) : eachB c f = true ↔ ∀ d, d < 8 → c.want d ≠ 0 → (d : Int) ≠ c.self → (c.peers d).inc = c.want d ∧ f (c.peers d) = true := by
 unfold eachB matB
 rw [List.all_eq_true]
 constructor
 ·intro h d hd hw hs
  have := h d ((mem_oth _ _ _).2 ⟨hd, hw, hs⟩)
  rw [Bool.and_eq_true, decide_eq_true_eq] at this
  exact this
 ·intro h d hd
  obtain ⟨a, b, e⟩ := (mem_oth _ _ _).1 hd
  rw [Bool.and_eq_true, decide_eq_true_eq]
  exact h d a b e
theorem At.ready {n : Nat} {s : Nat → Co × List Kt} {i : Nat} {c : Co} {L : List Kt} {G : List Gh} {T : List Td} (h : At n s i c L G T) (hb : rdyB c = true) : At n s i (c.wRdy true) L (.rk i c.own c.pr c.conf c.count :: G) T := by
 have k := h.c
 have hi8 : i < 8 := Nat.lt_of_lt_of_le h.hi h.hn
 unfold rdyB at hb
 simp only [Bool.and_eq_true, Bool.not_eq_true', gathB_iff, withB_iff] at hb
 obtain ⟨⟨⟨hgt, hnr⟩, hall⟩, hw⟩ := hb
 have hall' := (each_iff c _).1 hall
 obtain ⟨he0, Ci, hCi, hCe⟩ := k.g0 hgt
 obtain ⟨m, hm, hme⟩ := k.pw1
 have hge := fun q => targ_ge c q (oth c.want c.self) c.cut
 -- what all promised
 have hA : ∀ d, d < 8 → m d ≠ 0 → ∃ I' C, Gh.pr d (m d) c.pr I' C ∈ G ∧ (I' = c.conf → ∀ q, q < 8 → C q ≤ c.count q) := by
  intro d hd hn
  have hwd : c.want d ≠ 0 := by rw [hme d hd]; exact hn
  by_cases e : (d : Int) = c.self
  ·have e' : d = i := by rw [k.self] at e; omega
   subst e'
   refine ⟨c.conf, Ci, by rw [← hme d hd, k.wi]; exact hCi, fun _ q hq => ?_⟩
   rw [← hCe q hq]
   exact Nat.le_trans (hge q).1 (hw q hq)
  ·obtain ⟨a1, a2⟩ := hall' d hd hwd e
   have a2 := (Idn.same_iff _ _).1 a2
   have pe := k.peers d hd
   have hne : (c.peers d).pr ≠ (c.peers d).conf := by
    intro e1
    have e2 : (c.peers d).conf = c.pr := e1.symm.trans a2
    obtain ⟨m', b1, b2⟩ := h.g.g7 _ _ _ (pe.ins (by rw [e2]; exact he0))
    rw [e2] at b1 b2
    have ei : m' i = c.own := by rw [h.g.f1 _ _ _ b1 hm i hi8, ← hme i hi8]; exact k.wi
    obtain ⟨I, K, b3⟩ := b2 i hi8 (by rw [ei]; exact k.own)
    rw [ei] at b3
    rw [k.g3 I K b3 hgt] at hnr
    cases hnr
   obtain ⟨C, b1, b2⟩ := pe.pr hne
   rw [a1, a2, hme d hd] at b1
   refine ⟨_, C, b1, fun e1 q hq => ?_⟩
   rw [← b2 q hq]
   refine Nat.le_trans ((hge q).2 d ((mem_oth _ _ _).2 ⟨hd, hwd, e⟩) ((goesB_iff c d).2 ⟨a1, e1, a2⟩)) (hw q hq)
 refine ⟨h.hi, h.hn, h.g.grow tl ?_ ?_ ?_ ?_ ?_ ?_, fun j hj hne => (h.o j hj hne).more tl (off_cons (off_rk (Ne.symm hne))), ?_⟩
 ·intro X m1 m2 e1 e2 q hq
  rcases List.mem_cons.1 e1 with a | a <;> rcases List.mem_cons.1 e2 with b | b
  ·cases a
  ·cases a
  ·cases b
  ·exact h.g.f1 X m1 m2 a b q hq
 ·intro X m1 e1 e0
  rcases List.mem_cons.1 e1 with a | a
  ·cases a
  ·exact h.g.f0 X m1 a e0
 ·intro d k' X I C I' C' e1 e2
  rcases List.mem_cons.1 e1 with a | a <;> rcases List.mem_cons.1 e2 with b | b
  ·cases a
  ·cases a
  ·cases b
  ·exact h.g.f2 d k' X I C I' C' a b
 ·intro d k X e
  rcases List.mem_cons.1 e with a | a
  ·cases a
  ·exact .inl a
 ·intro d k' X I K e
  rcases List.mem_cons.1 e with a | a
  ·cases a
   right
   refine ⟨m, tl _ hm, fun d hd hn => ?_, fun q hq => ?_⟩
   ·obtain ⟨I', C, x, y⟩ := hA d hd hn
    exact ⟨I', C, tl _ x, y⟩
   ·rcases k.g1 hgt hnr q hq with a | ⟨d, hd, a, C, b, b'⟩
    ·refine ⟨i, hi8, by rw [← hme i hi8, k.wi]; exact k.own, Ci, tl _ (by rw [← hme i hi8, k.wi]; exact hCi), ?_⟩
     rw [a, hCe q hq]
    ·obtain ⟨C', b1, b2⟩ := b
     rw [hme d hd] at a b1
     obtain ⟨I', C2, x, y⟩ := hA d hd a
     obtain ⟨e1, e2⟩ := h.g.f2 _ _ _ _ _ _ _ x b1
     refine ⟨d, hd, a, C', tl _ b1, Nat.le_antisymm ?_ ?_⟩
     ·rw [← b2 q hq]; exact b'
     ·rw [← e2 q hq]; exact y e1 q hq
  ·exact .inl a
 ·intro x e
  rcases List.mem_cons.1 e with a | a
  ·cases a
  ·exact .inl a
 ·exact {
   self := k.self
   own := k.own
   le := k.le
   ep := k.ep
   wi := k.wi
   mi := k.mi
   pw1 := k.pw1.mono tl
   pw2 := k.pw2.mono tl
   peers := fun d hd => (k.peers d hd).mono tl
   g0 := fun e => ⟨(k.g0 e).1, (k.g0 e).2.mono tl⟩
   g1 := fun _ e => by cases e
   g2 := fun _ => ⟨hgt, c.count, List.mem_cons_self, fun _ _ => rfl⟩
   g3 := fun _ _ _ _ => rfl
   g4 := k.g4
   ins := fun e => tl _ (k.ins e)
   ini := k.ini
   viw := k.viw
   kept := k.kept
   kp1 := k.kp1
   kp2 := k.kp2
   cn := k.cn
   t4 := k.t4
   t2 := k.t2
   gp := fun X m' e ec => by
    rcases List.mem_cons.1 e with a | a
    ·cases a
    ·exact k.gp X m' a ec
   gr := fun n' Y I C e => by
    rcases List.mem_cons.1 e with a | a
    ·cases a
    ·exact k.gr n' Y I C a
   gk := fun n' Y I K e => by
    rcases List.mem_cons.1 e with a | a
    ·cases a
     exact ⟨Nat.le_refl _, fun _ => Idn.lt_irrefl _⟩
    ·exact k.gk n' Y I K a }
theorem lt_of_gath {c : Co} (h : ¬ c.pr.lt c.conf) (hn : c.pr ≠ c.conf) : c.conf.lt c.pr := by
 rcases cmpId_cases c.conf c.pr with ⟨a, _⟩ | ⟨a, _⟩ | ⟨a, _⟩
 ·exact a
 ·exact absurd a h
 ·exact absurd a.symm hn
theorem At.inst {n : Nat} {s : Nat → Co × List Kt} {i : Nat} {c : Co} {L : List Kt} {G : List Gh} {T : List Td} (h : At n s i c L G T) (hb : insB c = true) : At n s i (instC c) [] (.ins i c.own c.pr :: G) (T ++ [⟨i, c.own, c.conf, viewH c⟩]) := by
 have k := h.c
 have hi8 : i < 8 := Nat.lt_of_lt_of_le h.hi h.hn
 unfold insB at hb
 simp only [Bool.and_eq_true, gathB_iff] at hb
 obtain ⟨⟨hgt, hrd⟩, hdn⟩ := hb
 have hdn' := (each_iff c _).1 hdn
 have hlt := lt_of_gath k.le hgt
 obtain ⟨he0, _⟩ := k.g0 hgt
 obtain ⟨m, hm, hme⟩ := k.pw1
 obtain ⟨_, K, hK, hKc⟩ := k.g2 hrd
 have hold : ∀ t ∈ T, t.who = i → t.inc = c.own → t.inn ≠ c.pr := fun t ht hw hn e => by
  have := ((k.t4 t ht hw).2 hn).1
  rw [e] at this
  exact this hlt
 have g' : GI n (.ins i c.own c.pr :: G) T := by
  refine h.g.grow tl ?_ ?_ ?_ ?_ ?_ ?_
  ·intro X m1 m2 e1 e2 q hq
   rcases List.mem_cons.1 e1 with a | a <;> rcases List.mem_cons.1 e2 with b | b
   ·cases a
   ·cases a
   ·cases b
   ·exact h.g.f1 X m1 m2 a b q hq
  ·intro X m1 e1 e0
   rcases List.mem_cons.1 e1 with a | a
   ·cases a
   ·exact h.g.f0 X m1 a e0
  ·intro d k' X I C I' C' e1 e2
   rcases List.mem_cons.1 e1 with a | a <;> rcases List.mem_cons.1 e2 with b | b
   ·cases a
   ·cases a
   ·cases b
   ·exact h.g.f2 d k' X I C I' C' a b
  ·intro d k' X e
   rcases List.mem_cons.1 e with a | a
   ·cases a
    right
    refine ⟨m, tl _ hm, fun d hd hn => ?_⟩
    by_cases e : (d : Int) = c.self
    ·have e' : d = i := by rw [k.self] at e; omega
     subst e'
     refine ⟨c.conf, K, tl _ ?_⟩
     rw [← hme d hd, k.wi]
     exact hK
    ·obtain ⟨a1, a2⟩ := hdn' d hd (by rw [hme d hd]; exact hn) e
     have pe := k.peers d hd
     unfold doneQ at a2
     simp only [Bool.or_eq_true, Bool.and_eq_true, Idn.same_iff] at a2
     rcases a2 with ⟨b1, b2⟩ | b1
     ·obtain ⟨I, K, b3⟩ := pe.rk b2
      rw [a1, b1, hme d hd] at b3
      exact ⟨I, K, tl _ b3⟩
     ·obtain ⟨m', b2, b3⟩ := h.g.g7 _ _ _ (pe.ins (by rw [b1]; exact he0))
      rw [b1] at b2 b3
      have ed : m' d = m d := h.g.f1 _ _ _ b2 hm d hd
      obtain ⟨I, K, b4⟩ := b3 d hd (by rw [ed]; exact hn)
      rw [ed] at b4
      exact ⟨I, K, tl _ b4⟩
   ·exact .inl a
  ·intro d k X I K e
   rcases List.mem_cons.1 e with a | a
   ·cases a
   ·exact .inl a
  ·intro x e
   rcases List.mem_cons.1 e with a | a
   ·cases a
   ·exact .inl a
 have hto : TO T ⟨i, c.own, c.conf, viewH c⟩ := {
  v := fun _ b hb hv hc => by
   have hc' : b.h.conf = c.pr := hc
   obtain ⟨b1, _, b2, _⟩ := (h.g.ta b hb).vm hv
   rw [hc'] at b2
   refine ⟨fun q hq => PW.same h.g b2 k.pw1 q hq, fun hw => ?_⟩
   have hw' : b.who = i := hw
   have e1 : b.inc = c.own := by
    rw [← b1, hw', PW.same h.g b2 k.pw1 i hi8]
    exact k.wi
   have := ((k.t4 b hb hw').2 e1).2 hv
   rw [hc'] at this
   exact this hlt
  o := fun e => by cases e
  c := fun e => by cases e
  f := fun e => by cases e }
 have hno : ∀ (j k' : Nat) (I : Idn) (q : Nat), cntB j k' I q ⟨i, c.own, c.conf, viewH c⟩ = false := fun j k' I q => by
  cases hb' : cntB j k' I q ⟨i, c.own, c.conf, viewH c⟩ with
  | false => rfl
  | true => cases (cntB_iff.1 hb').2.2.2.1
 have hcn : ∀ (j k' : Nat) (I : Idn) (q : Nat), cnt (T ++ [⟨i, c.own, c.conf, viewH c⟩]) j k' I q = cnt T j k' I q := fun j k' I q => by
  rw [cnt_app, cnt_one, hno, if_neg Bool.false_ne_true, Nat.add_zero]
 have hta : TA n (.ins i c.own c.pr :: G) (T ++ [⟨i, c.own, c.conf, viewH c⟩]) ⟨i, c.own, c.conf, viewH c⟩ := {
  who := h.hi
  inn := ⟨c.mem, k.pw2.mono tl, k.mi⟩
  vm := fun _ => ⟨k.wi, hlt, k.pw1.mono tl, K, tl _ hK, fun q hq => by
   show cnt (T ++ _) i c.own c.conf q = K q
   rw [hcn, k.cn q hq, hKc q hq]⟩
  fr := fun e => by cases e
  sf := fun e => by cases e
  viw := fun e => by
   obtain ⟨t, a, b⟩ := k.viw e
   exact ⟨t, List.mem_append_left _ a, b⟩
  ini := fun e => by
   obtain ⟨a, b⟩ := k.ini e
   obtain ⟨m, y, z⟩ := k.pw2
   refine ⟨⟨m, tl _ y, fun d hd => ?_⟩, ?_⟩
   ·show put8 noMb c.conf.c c.conf.i d = m d
    rw [← z d hd, b d hd, a]
   ·show c.conf.c < n
    rw [a]
    exact h.hi }
 refine ⟨h.hi, h.hn, g'.tell hto hta fun b _ _ q _ => hno _ _ _ q, fun j hj hne => (h.o j hj hne).mono tl (off_cons off_ins) (u := [⟨i, c.own, c.conf, viewH c⟩]) fun t ht => by cases List.mem_singleton.1 ht; exact Ne.symm hne, ?_⟩
 exact {
   self := k.self
   own := k.own
   le := Idn.lt_irrefl _
   ep := k.ep
   wi := k.wi
   mi := k.wi
   pw1 := k.pw1.mono tl
   pw2 := k.pw1.mono tl
   peers := fun d hd => (k.peers d hd).mono tl
   g0 := fun e => absurd rfl e
   g1 := fun e => absurd rfl e
   g2 := fun e => by cases e
   g3 := fun _ _ _ e => absurd rfl e
   g4 := fun e => absurd rfl e
   ins := fun _ => List.mem_cons_self
   ini := fun e => absurd e he0
   viw := fun _ => ⟨_, List.mem_append_right _ (List.mem_singleton.2 rfl), rfl, rfl⟩
   kept := fun _ e => by cases e
   kp1 := fun e => by cases e
   kp2 := fun e => by cases e
   cn := fun q hq => by
    show cnt (T ++ _) i c.own c.pr q = 0
    rw [hcn]
    refine cnt_none fun t ht => ?_
    cases hb' : cntB i c.own c.pr q t with
    | false => rfl
    | true =>
     obtain ⟨e1, e2, e3, _⟩ := cntB_iff.1 hb'
     exact absurd e3 (hold t ht e1 e2)
   t4 := fun t ht hw => by
    rcases List.mem_append.1 ht with a | a
    ·obtain ⟨x, y⟩ := k.t4 t a hw
     exact ⟨x, fun e => ⟨Idn.lt_asymm (le_lt (y e).1 hlt), fun e' => Idn.lt_asymm (le_lt ((y e).2 e') hlt)⟩⟩
    ·cases List.mem_singleton.1 a
     exact ⟨Nat.le_refl _, fun _ => ⟨k.le, fun _ => Idn.lt_irrefl _⟩⟩
   t2 := fun t ht hw h1 h2 h3 => by
    rcases List.mem_append.1 ht with a | a
    ·exact absurd h2 (hold t a hw h1)
    ·cases List.mem_singleton.1 a
     cases h3
   gp := fun X m' e ec => by
    rcases List.mem_cons.1 e with a | a
    ·cases a
    ·exact k.gp X m' a ec
   gr := fun n' Y I C e => by
    rcases List.mem_cons.1 e with a | a
    ·cases a
    ·exact k.gr n' Y I C a
   gk := fun n' Y I K e => by
    rcases List.mem_cons.1 e with a | a
    ·cases a
    ·exact k.gk n' Y I K a }
end Go.Proofs.YthgfpdidilolgaaGreat
