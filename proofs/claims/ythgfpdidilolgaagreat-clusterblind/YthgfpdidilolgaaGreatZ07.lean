/-
  Of the texts beneath these laws, in their order: CeQ, ClL, ClM.
  Each theorem says its own conditions.
-/
import Derived.Test.YthgfpdidilolgaaGreatZ05
import Derived.Test.YthgfpdidilolgaaGreatZ06
namespace Go.Proofs.YthgfpdidilolgaaGreat
set_option maxRecDepth 10000
open Go.RowKit Go.Sort
theorem put8_lt {f : Nat → Nat} {i v : Nat} (h : ∀ j, f j < 4294967296) (hv : v < 4294967296) (j : Nat) : put8 f i v j < 4294967296 := by
 unfold put8
 split
 ·exact hv
 ·exact h j
theorem max_lt {a b c : Nat} (h : a < c) (k : b < c) : max a b < c := by omega
theorem tickB_ok {b : Bt} (h : b.ok) : (tickB b).ok := by
 obtain ⟨h1, h2, h3⟩ := h
 refine ⟨?_, h2, h3⟩
 show (if b.now < 4294967295 then b.now + 1 else b.now) < 4294967296
 split <;> omega
theorem hearB_ok {b : Bt} (h : b.ok) (i : Int) (n : Nat) (hn : n < 4294967296) : (hearB b i n).ok := by
 obtain ⟨h1, h2, h3⟩ := h
 unfold hearB
 split
 ·exact ⟨h1, put8_lt h2 h1, put8_lt h3 hn⟩
 ·exact ⟨h1, h2, h3⟩
theorem rchB_lt {b : Bt} (h : b.ok) (i : Int) (n wt : Nat) (hn : n < 4294967296) (j : Nat) : rchB b i n wt j < 4294967296 := by
 unfold rchB
 split
 ·exact hn
 ·split
  ·exact h.inc j
  ·omega
theorem propI_fit {c : Co} (h : c.fit) (s : Nat) (hs : s < 8) (hc : c.self = (s : Int)) (m : Nat → Nat) : (propI c m).fit := by
 unfold propI
 split
 ·rename_i hp
  have he : c.epoch ≠ 4294967295 := by
   unfold proB at hp
   rw [Bool.and_eq_true] at hp
   have := hp.2
   simpa using this
  have := h.epoch
  refine ⟨?_, ?_, h.own⟩
  ·show c.epoch + 1 < _; omega
  ·show c.self.toNat < _; rw [hc]; simp; omega
 ·exact ⟨by decide, by decide, by decide⟩
theorem told_fit (p : Pk) : (told p).fit := ⟨p.lt 1, ⟨p.lt 2, p.lt 3, p.lt 4⟩, ⟨p.lt 21, p.lt 22, p.lt 23⟩, fun _ => p.lt _⟩
theorem togP_fit {x y : Pe} (hx : x.fit) (hy : y.fit) : (togP x y).fit := by
 unfold togP
 split
 ·exact ⟨hx.1, hy.2.1, hx.2.2.1, hy.2.2.2⟩
 ·split
  ·exact ⟨hx.1, hx.2.1, hx.2.2.1, fun i => max_lt (hx.2.2.2 i) (hy.2.2.2 i)⟩
  ·exact ⟨hx.1, hx.2.1, hx.2.2.1, hx.2.2.2⟩
theorem updP_fit {x y : Pe} (hx : x.fit) (hy : y.fit) : (updP x y).fit := by
 unfold updP
 split
 ·exact hx
 ·split
  ·exact hy
  ·exact togP_fit hx hy
theorem fit_wBeat {c : Co} (h : c.fit) {b : Bt} (hb : b.ok) : (c.wBeat b).fit := ⟨h.own, hb, h.conf, h.mem, h.count, h.pr, h.want, h.cut, h.peers, h.epoch⟩
theorem fit_wEpoch {c : Co} (h : c.fit) {e : Nat} (he : e < 4294967296) : (c.wEpoch e).fit := ⟨h.own, h.beat, h.conf, h.mem, h.count, h.pr, h.want, h.cut, h.peers, he⟩
theorem fit_prom {c : Co} (h : c.fit) {x : Idn} {m : Nat → Nat} (hx : x.fit) (hm : ∀ i, m i < 4294967296) : (promC c x m).fit := ⟨h.own, h.beat, h.conf, h.mem, h.count, hx, hm, h.count, h.peers, h.epoch⟩
theorem fit_wCount {c : Co} (h : c.fit) {m : Nat → Nat} (hm : ∀ i, m i < 4294967296) : (c.wCount m).fit := ⟨h.own, h.beat, h.conf, h.mem, hm, h.pr, h.want, h.cut, h.peers, h.epoch⟩
theorem fit_wPeer {c : Co} (h : c.fit) (i : Nat) {x : Pe} (hx : x.fit) : (c.wPeer i x).fit := ⟨h.own, h.beat, h.conf, h.mem, h.count, h.pr, h.want, h.cut, fun j => by
 show (putP c.peers i x j).fit
 unfold putP
 split
 ·exact hx
 ·exact h.peers j, h.epoch⟩
theorem fit_kp {c : Co} (h : c.fit) (a : Option Addr) (n k : Nat) : (c.kp a n k).fit := ⟨h.own, h.beat, h.conf, h.mem, h.count, h.pr, h.want, h.cut, h.peers, h.epoch⟩
theorem fit_ready {c : Co} (h : c.fit) : (readyC c).fit := by
 unfold readyC
 split
 ·exact ⟨h.own, h.beat, h.conf, h.mem, h.count, h.pr, h.want, h.cut, h.peers, h.epoch⟩
 ·exact h
theorem fit_goOn {s : Sg} (h : s.c.fit) : (goOnS s).c.fit := by
 have hr := fit_ready h
 rcases goOn_cases s with ⟨_, e⟩ | ⟨_, e⟩ <;> rw [e]
 ·exact ⟨hr.own, hr.beat, hr.pr, hr.want, fun _ => by show (0 : Nat) < _; omega, hr.pr, hr.want, fun _ => by show (0 : Nat) < _; omega, hr.peers, hr.epoch⟩
 ·exact hr
theorem fit_send {s : Sg} (h : s.c.fit) (f : Nat → En) : (sendS s f).c.fit := by
 unfold sendS
 split
 ·exact fit_wCount h (fun i => takeC_lt _ _ h.count i)
 ·exact h
theorem fit_off {s : Sg} (h : s.c.fit) (p : Pk) : (offS s p).c.fit := by
 rcases offS_cases s p with ⟨_, e⟩ | ⟨_, e⟩ <;> rw [e]
 ·refine fit_wCount h (fun i => ?_)
  exact ((Fol.first s.L s.c.count s.c.mem (mostC s.c) h.count).offer p).lt i
 ·exact h
theorem fit_tick {c : Co} (h : c.fit) (s : Nat) (hs : s < 8) (hc : c.self = (s : Int)) (L : List Kt) (f : Nat → En) : (tickS c L f).c.fit := by
 refine fit_send (fit_goOn ?_) f
 show (tick0 c).fit
 have h1 : (c.wBeat (tickB c.beat)).fit := fit_wBeat h (tickB_ok h.beat)
 unfold tick0 proposeC
 split
 ·have hp := propI_fit h1 s hs hc (reachC (c.wBeat (tickB c.beat)))
  exact fit_prom (fit_wEpoch h1 hp.1) hp (fun i => rchB_lt h1.beat _ _ _ h1.own i)
 ·exact h1
theorem fit_hear {c : Co} (h : c.fit) (p : Pk) : (hearC c p).fit :=
 fit_wEpoch (fit_wPeer (fit_wBeat h (hearB_ok h.beat _ _ (p.lt 1))) _ (updP_fit (h.peers _) (told_fit p))) (max_lt h.epoch (max_lt (p.lt 33) (p.lt 21)))
theorem fit_recv {c : Co} (h : c.fit) (L : List Kt) (p : Pk) : (recvS c L p).c.fit := by
 unfold recvS
 split
 ·refine fit_goOn (fit_off ?_ p)
  show (recv0 c p).fit
  unfold recv0 adopC
  split
  ·exact fit_prom (fit_hear h p) ⟨p.lt 21, p.lt 22, p.lt 23⟩ (fun _ => p.lt _)
  ·exact fit_hear h p
 ·exact h
theorem fit_start {s : Int} {n : Nat} (hn : n < 4294967296) (wt : Int) (h : startB s n wt = true) : (startC s n wt).fit := by
 unfold startC
 rw [if_pos h]
 have h' := of_decide_eq_true h
 have z0 : (0 : Nat) < 4294967296 := by omega
 have hz : ∀ i, noMb i < 4294967296 := fun _ => z0
 have hf : (Idn.mk 0 s.toNat n).fit := ⟨z0, by show s.toNat < _; omega, hn⟩
 have hi : Idn.zero.fit := ⟨z0, z0, z0⟩
 have hp : ∀ i, (noPe i).fit := fun _ => ⟨z0, hi, hi, hz⟩
 exact ⟨hn, ⟨z0, hz, hz⟩, hf, fun i => put8_lt hz hn i, hz, hf, fun i => put8_lt hz hn i, hz, hp, z0⟩
theorem sendS_len (s : Sg) (f : Nat → En) : (sendS s f).L.length ≤ s.L.length + 1 ∧ (sendS s f).t.length ≤ s.t.length + 1 := by
 unfold sendS
 split
 ·exact ⟨takeL_len _ _, by show (s.t ++ [_]).length ≤ _; simp⟩
 ·exact ⟨by omega, by omega⟩
theorem tickS_len (c : Co) (L : List Kt) (f : Nat → En) : (tickS c L f).L.length ≤ L.length + 1 ∧ (tickS c L f).t.length ≤ 2 := by
 have h1 := sendS_len (tick1 c L) f
 have h2 : (tick1 c L).L.length ≤ L.length ∧ (tick1 c L).t.length ≤ 0 + 1 := goOn_len ⟨tick0 c, L, []⟩
 show (sendS (tick1 c L) f).L.length ≤ _ ∧ _
 exact ⟨by omega, by show (sendS (tick1 c L) f).t.length ≤ _; omega⟩
theorem recvS_len (c : Co) (L : List Kt) (p : Pk) : (recvS c L p).L.length ≤ L.length + 3 ∧ (recvS c L p).t.length ≤ 4 := by
 unfold recvS
 split
 ·have h1 := goOn_len (offS ⟨recv0 c p, L, []⟩ p)
  have h2 : (offS ⟨recv0 c p, L, []⟩ p).L.length ≤ L.length + 3 ∧ (offS ⟨recv0 c p, L, []⟩ p).t.length ≤ 0 + 3 := offS_len _ p
  unfold recvY
  omega
 ·exact ⟨by show L.length ≤ _; omega, by show (0 : Nat) ≤ 4; omega⟩
theorem sendS_self (s : Sg) (f : Nat → En) : (sendS s f).c.self = s.c.self ∧ (sendS s f).c.own = s.c.own := by
 unfold sendS
 split <;> exact ⟨rfl, rfl⟩
theorem goOn_own (s : Sg) : (goOnS s).c.own = s.c.own := by
 rcases goOn_cases s with ⟨_, e⟩ | ⟨_, e⟩ <;> rw [e] <;> exact (readyC_keeps s.c).2.1
theorem tickS_self (c : Co) (L : List Kt) (f : Nat → En) : (tickS c L f).c.self = c.self ∧ (tickS c L f).c.own = c.own := by
 have h := sendS_self (tick1 c L) f
 refine ⟨h.1.trans ?_, h.2.trans ?_⟩
 ·exact (goOn_self ⟨tick0 c, L, []⟩).trans (tick0_self c)
 ·exact (goOn_own ⟨tick0 c, L, []⟩).trans ((proposeC_keeps _ _).2.1)
theorem offS_own (s : Sg) (p : Pk) : (offS s p).c.own = s.c.own := by
 rcases offS_cases s p with ⟨_, e⟩ | ⟨_, e⟩ <;> rw [e]
 rfl
theorem recvS_self (c : Co) (L : List Kt) (p : Pk) : (recvS c L p).c.self = c.self ∧ (recvS c L p).c.own = c.own := by
 unfold recvS
 split
 ·refine ⟨?_, ?_⟩
  ·exact (goOn_self _).trans ((offS_self _ p).trans (recv0_self c p))
  ·exact (goOn_own _).trans ((offS_own _ p).trans ((adopC_keeps _ _).2.1))
 ·exact ⟨rfl, rfl⟩
end Go.Proofs.YthgfpdidilolgaaGreat
namespace Go.Proofs.YthgfpdidilolgaaGreat
set_option maxRecDepth 10000
open Go.RowKit Go.Sort
theorem got_in {L : List Kt} {j : Int} {r : Nat} (h : ∃ k ∈ L, k.fr = j ∧ k.rd = r) : ∃ k ∈ L, k.fr = j ∧ k.rd = r ∧ gotF (getK j r L) = k.f := by
 obtain ⟨k, h1, h2, h3⟩ := h
 unfold getK
 cases e : L.find? (isB j r) with
 | none =>
  have := List.find?_eq_none.1 e k h1
  simp only [isB, h2, h3, and_self, decide_true, not_true] at this
 | some x =>
  have hb := List.find?_some e
  simp only [isB, decide_eq_true_eq] at hb
  exact ⟨x, List.mem_of_find?_eq_some e, hb.1, hb.2, rfl⟩
theorem At.send {n : Nat} {s : Nat → Co × List Kt} {i : Nat} {c : Co} {L : List Kt} {G : List Gh} {T : List Td} (h : At n s i c L G T) : At n s i c L (.sn (packW c L) :: G) T := by
 have k := h.c
 have hi8 : i < 8 := Nat.lt_of_lt_of_le h.hi h.hn
 have es : c.self.toNat = i := by rw [k.self]; rfl
 refine ⟨h.hi, h.hn, h.g.grow tl ?_ ?_ ?_ ?_ ?_ ?_, fun j hj hne => (h.o j hj hne).more tl (off_cons off_sn), k.more tl (off_cons off_sn)⟩
 ·intro X m1 m2 e1 e2 q hq
  rcases List.mem_cons.1 e1 with a | a <;> rcases List.mem_cons.1 e2 with b | b
  ·cases a
  ·cases a
  ·cases b
  ·exact h.g.f1 X m1 m2 a b q hq
 ·intro X m1 e1 e0
  rcases List.mem_cons.1 e1 with a | a
  ·cases a
  ·exact h.g.f0 X m1 a e0
 ·intro d k' X I C I' C' e1 e2
  rcases List.mem_cons.1 e1 with a | a <;> rcases List.mem_cons.1 e2 with b | b
  ·cases a
  ·cases a
  ·cases b
  ·exact h.g.f2 d k' X I C I' C' a b
 ·intro d k X e
  rcases List.mem_cons.1 e with a | a
  ·cases a
  ·exact .inl a
 ·intro d k X I K e
  rcases List.mem_cons.1 e with a | a
  ·cases a
  ·exact .inl a
 ·intro x e
  rcases List.mem_cons.1 e with a | a
  ·cases a
   right
   rintro p ⟨l0, l1, l2, l3, l4, l5, l6, l7, l8, l9⟩
   have m0 : p.n 0 = i := l0.trans es
   have m1 : p.n 1 = c.own := l1
   have m2 : p.conf = c.conf := l2
   have m3 : p.pr = c.pr := l3
   have m5 : p.r = c.rdy := l5
   have m6 : p.n 34 = c.count i := by rw [l6]; show c.count c.self.toNat = _; rw [es]
   have own : ∀ r f, (∃ y ∈ L, y.fr = (i : Int) ∧ y.rd = r) → (∀ j, j < 6 → f j = gotF (getK c.self r L) j) → Own T c.conf i r f := by
    intro r f hy hf
    rw [← k.self] at hy
    obtain ⟨y, y1, y2, y3, y4⟩ := got_in hy
    obtain ⟨q, q1, q2, t, t1, t2, t3, t4, t5, t6, t7⟩ := k.kept y y1
    have eq : q = i := by rw [y2, k.self] at q2; omega
    rw [eq] at t3 t5
    exact ⟨t, t1, t2, t3, t4, t5, t6.trans y3, fun j hj => by rw [t7 j hj, hf j hj, y4]⟩
   refine ⟨by rw [m0]; exact hi8, ?_, ⟨fun e => ?_, fun e => ?_, fun e => ?_⟩, fun e => ?_, fun e => ?_, fun e => ?_⟩
   ·obtain ⟨m, a, b⟩ := k.pw1
    rw [m3]
    exact ⟨m, tl _ a, fun q hq => (l4 q hq).2.trans (b q hq)⟩
   ·show PR _ (p.n 0) (p.n 1) p.pr p.conf p.count
    have e' : c.pr ≠ c.conf := by rw [← m3, ← m2]; exact e
    obtain ⟨_, C, a, b⟩ := k.g0 e'
    rw [m0, m1, m3, m2]
    refine ⟨C, tl _ a, fun q hq => (l4 q hq).1.trans ?_⟩
    show (if gathB c = true then c.cut else c.count) q = C q
    rw [if_pos ((gathB_iff c).2 e')]
    exact b q hq
   ·have e' : c.rdy = true := m5.symm.trans e
    obtain ⟨_, K, a, _⟩ := k.g2 e'
    refine ⟨c.conf, K, tl _ ?_⟩
    show Gh.rk (p.n 0) (p.n 1) p.pr c.conf K ∈ G
    rw [m0, m1, m3]
    exact a
   ·show Gh.ins (p.n 0) (p.n 1) p.conf ∈ _
    rw [m0, m1, m2]
    refine tl _ (k.ins ?_)
    rw [← m2]
    exact e
   ·rw [m0, m2, m6]
    rw [m6] at e
    refine own _ _ ?_ fun j hj => ?_
    ·obtain ⟨y, y1, y2, y3⟩ := k.kp2 e
     exact ⟨y, y1, y2, by omega⟩
    ·rw [(l7 j hj).2.1]
     show (if 0 < ownN c then gotF (getK c.self (ownN c - 1) L) else noFr) j = _
     have : ownN c = c.count i := by unfold ownN; rw [es]
     rw [this, if_pos (by omega)]
   ·rw [m0, m2, m6]
    rw [m6] at e
    refine own _ _ (k.kp1 e) fun j hj => ?_
    rw [(l7 j hj).1]
    show gotF (getK c.self (ownN c) L) j = _
    unfold ownN
    rw [es]
   ·have e1 : (1 : Nat) ≤ relR L c.beat.now := by rw [← show p.n 108 = relR L c.beat.now from l9]; exact e
    have hL : ¬ L.isEmpty = true := by
     intro hL
     unfold relR at e1
     rw [if_pos hL] at e1
     omega
    have hLn : 0 < L.length := List.length_pos_iff.2 fun e => hL (by rw [e]; rfl)
    obtain ⟨y, hy⟩ : ∃ y, L[c.beat.now % L.length]? = some y := ⟨_, List.getElem?_eq_getElem (Nat.mod_lt _ hLn)⟩
    have hp : pickK L c.beat.now = y := by unfold pickK; rw [hy]; rfl
    obtain ⟨q, q1, q2, t, t1, t2, t3, t4, t5, t6, t7⟩ := k.kept y (List.mem_of_getElem? hy)
    have e7 : p.n 107 = q := by
     rw [show p.n 107 = relO L c.beat.now from l8]
     unfold relO
     rw [if_neg hL, hp, q2]
     omega
    have e8 : p.n 108 = y.rd := by
     rw [show p.n 108 = relR L c.beat.now from l9]
     unfold relR
     rw [if_neg hL, hp]
    rw [e7, e8, m2]
    refine ⟨q1, t, t1, t2, t3, t4, t5, t6, fun j hj => ?_⟩
    rw [t7 j hj, (l7 j hj).2.2]
    show y.f j = relF L c.beat.now j
    unfold relF
    rw [if_neg hL, hp]
  ·exact .inl a
theorem ci_start {i k : Nat} {G : List Gh} {T : List Td} (wt : Int) (hs : startB (i : Int) k wt = true) (hg : Gh.pw ⟨0, i, k⟩ (put8 noMb i k) ∈ G)
  (gt : ∀ t ∈ T, t.who = i → t.inc < k) (gp : ∀ X m, Gh.pw X m ∈ G → X.c = i → X.i ≤ k ∧ (X.i = k → X.e = 0)) (gr : ∀ n' X I C, Gh.pr i n' X I C ∈ G → n' < k) (gk : ∀ n' X I K, Gh.rk i n' X I K ∈ G → n' < k) : CI i (startC (i : Int) k wt) [] G T := by
 have hk : k ≠ 0 := by
  unfold startB at hs
  rw [decide_eq_true_eq] at hs
  exact hs.2.2.1
 unfold startC
 rw [if_pos hs]
 have e1 : put8 noMb ((i : Int)).toNat k i = k := if_pos rfl
 exact {
   self := rfl
   own := hk
   le := Idn.lt_irrefl _
   ep := Nat.le_refl _
   wi := e1
   mi := e1
   pw1 := ⟨_, hg, fun _ _ => rfl⟩
   pw2 := ⟨_, hg, fun _ _ => rfl⟩
   peers := fun d _ => ⟨fun e => absurd rfl e, fun e => (by cases e), fun e => absurd rfl e⟩
   g0 := fun e => absurd rfl e
   g1 := fun e => absurd rfl e
   g2 := fun e => by cases e
   g3 := fun _ _ _ e => absurd rfl e
   g4 := fun e => absurd rfl e
   ins := fun e => absurd rfl e
   ini := fun _ => ⟨rfl, fun _ _ => rfl⟩
   viw := fun e => absurd rfl e
   kept := fun _ e => by cases e
   kp1 := fun e => by cases e
   kp2 := fun e => by cases e
   cn := fun q _ => cnt_none fun t ht => by
    cases hb' : cntB i k ⟨0, i, k⟩ q t with
    | false => exact hb'
    | true =>
     obtain ⟨e1, e2, _⟩ := cntB_iff.1 hb'
     have := gt t ht e1
     omega
   t4 := fun t ht hw => ⟨Nat.le_of_lt (gt t ht hw), fun e => absurd e (Nat.ne_of_lt (gt t ht hw))⟩
   t2 := fun t ht hw e => absurd e (Nat.ne_of_lt (gt t ht hw))
   gp := fun X m e ec => ⟨(gp X m e ec).1, fun e' => Nat.le_of_eq ((gp X m e ec).2 e')⟩
   gr := fun n' X I C e => ⟨Nat.le_of_lt (gr n' X I C e), fun e' => absurd e' (Nat.ne_of_lt (gr n' X I C e))⟩
   gk := fun n' X I C e => ⟨Nat.le_of_lt (gk n' X I C e), fun e' => absurd e' (Nat.ne_of_lt (gk n' X I C e))⟩ }
theorem At.up {n : Nat} {s : Nat → Co × List Kt} {i : Nat} {c : Co} {L : List Kt} {G : List Gh} {T : List Td} (h : At n s i c L G T) (wt : Int) (hs : startB (i : Int) (c.own + 1) wt = true) :
  At n s i (startC (i : Int) (c.own + 1) wt) [] (.pw ⟨0, i, c.own + 1⟩ (put8 noMb i (c.own + 1)) :: G) T := by
 have k := h.c
 refine ⟨h.hi, h.hn, h.g.grow tl ?_ ?_ ?_ ?_ ?_ ?_, fun j hj hne => (h.o j hj hne).more tl (off_cons (off_pw (Ne.symm hne))), ci_start wt hs List.mem_cons_self ?_ ?_ ?_ ?_⟩
 ·intro X m1 m2 e1 e2 q hq
  rcases List.mem_cons.1 e1 with a | a <;> rcases List.mem_cons.1 e2 with b | b
  ·cases a; cases b; rfl
  ·cases a
   have : c.own + 1 ≤ c.own := (k.gp _ _ b rfl).1
   omega
  ·cases b
   have : c.own + 1 ≤ c.own := (k.gp _ _ a rfl).1
   omega
  ·exact h.g.f1 X m1 m2 a b q hq
 ·intro X m1 e1 e0
  rcases List.mem_cons.1 e1 with a | a
  ·cases a
   exact ⟨h.hi, fun _ _ => rfl⟩
  ·exact h.g.f0 X m1 a e0
 ·intro d k X I C I' C' e1 e2
  rcases List.mem_cons.1 e1 with a | a <;> rcases List.mem_cons.1 e2 with b | b
  ·cases a
  ·cases a
  ·cases b
  ·exact h.g.f2 d k X I C I' C' a b
 ·intro d k X e
  rcases List.mem_cons.1 e with a | a
  ·cases a
  ·exact .inl a
 ·intro d k X I K e
  rcases List.mem_cons.1 e with a | a
  ·cases a
  ·exact .inl a
 ·intro x e
  rcases List.mem_cons.1 e with a | a
  ·cases a
  ·exact .inl a
 ·intro t ht hw
  have := (k.t4 t ht hw).1
  omega
 ·intro X m e ec
  rcases List.mem_cons.1 e with a | a
  ·cases a
   exact ⟨Nat.le_refl _, fun _ => rfl⟩
  ·have := (k.gp X m a ec).1
   exact ⟨by omega, fun e => by omega⟩
 ·intro n' X I C e
  rcases List.mem_cons.1 e with a | a
  ·cases a
  ·have := (k.gr _ _ _ _ a).1
   omega
 ·intro n' X I C e
  rcases List.mem_cons.1 e with a | a
  ·cases a
  ·have := (k.gk _ _ _ _ a).1
   omega
end Go.Proofs.YthgfpdidilolgaaGreat
namespace Go.Proofs.YthgfpdidilolgaaGreat
set_option maxRecDepth 10000
open Go.RowKit Go.Sort
def inOf : Idn → List Hp → Idn
 | I, [] => I
 | I, h :: t => inOf (if h.view = true then h.conf else I) t
def tells (i n : Nat) : Idn → List Hp → List Td
 | _, [] => []
 | I, h :: t => ⟨i, n, I, h⟩ :: tells i n (if h.view = true then h.conf else I) t
theorem inOf_app : ∀ (t u : List Hp) (I : Idn), inOf I (t ++ u) = inOf (inOf I t) u
 | [], _, _ => rfl
 | _ :: t, u, _ => inOf_app t u _
theorem tells_app (i n : Nat) : ∀ (t u : List Hp) (I : Idn), tells i n I (t ++ u) = tells i n I t ++ tells i n (inOf I t) u
 | [], _, _ => rfl
 | h :: t, u, I => by
  show _ :: tells i n _ (t ++ u) = _ :: (tells i n _ t ++ _)
  rw [tells_app i n t u]
  rfl
structure AtS (n : Nat) (s : Nat → Co × List Kt) (i : Nat) (o : Nat) (T : List Td) (I : Idn) (g : Sg) (G : List Gh) : Prop where
 a : At n s i g.c g.L G (T ++ tells i o I g.t)
 own : g.c.own = o
 inn : inOf I g.t = g.c.conf
theorem say_app {i o : Nat} {T : List Td} {I : Idn} {t : List Hp} {c : Co} (ho : c.own = o) (hi : inOf I t = c.conf) (h : Hp) : T ++ tells i o I t ++ [⟨i, c.own, c.conf, h⟩] = T ++ tells i o I (t ++ [h]) := by
 rw [tells_app, hi, ho, List.append_assoc]
 rfl
theorem AtS.goOn {n : Nat} {s : Nat → Co × List Kt} {i o : Nat} {T : List Td} {I : Idn} {g : Sg} {G : List Gh} (h : AtS n s i o T I g G) : ∃ G', (∀ x ∈ G, x ∈ G') ∧ AtS n s i o T I (goOnS g) G' := by
 obtain ⟨c, L, t⟩ := g
 have h1 : ∃ G', (∀ x ∈ G, x ∈ G') ∧ At n s i (readyC c) L G' (T ++ tells i o I t) := by
  unfold readyC
  split
  ·rename_i hb
   exact ⟨_, tl, h.a.ready hb⟩
  ·exact ⟨G, fun _ h => h, h.a⟩
 obtain ⟨G1, hG, a⟩ := h1
 obtain ⟨_, k2, _, _, _, _, k7, k8, k9, _⟩ := readyC_keeps c
 rcases goOn_cases ⟨c, L, t⟩ with ⟨hb, e⟩ | ⟨_, e⟩ <;> rw [e]
 ·have b := a.inst hb
  have e2 : (readyC c).own = o := k2.trans h.own
  have e3 : inOf I t = (readyC c).conf := h.inn.trans k9.symm
  rw [say_app e2 e3] at b
  exact ⟨_, fun x hx => tl _ (hG x hx), b, e2, by rw [inOf_app]; rfl⟩
 ·exact ⟨G1, hG, a, k2.trans h.own, h.inn.trans k9.symm⟩
theorem AtS.sendS {n : Nat} {s : Nat → Co × List Kt} {i o : Nat} {T : List Td} {I : Idn} {g : Sg} {G : List Gh} (h : AtS n s i o T I g G) (hc : ∀ d, g.c.count d < 4294967296) (f : Nat → En) : AtS n s i o T I (Go.Proofs.YthgfpdidilolgaaGreat.sendS g f) G := by
 obtain ⟨c, L, t⟩ := g
 have k := h.a.c
 have es : c.self.toNat = i := by rw [show c.self = (i : Int) from k.self]; rfl
 unfold Go.Proofs.YthgfpdidilolgaaGreat.sendS
 split
 ·rename_i hb
  have hb' : sendB c = true := hb
  unfold sendB mayB at hb'
  simp only [Bool.and_eq_true, Bool.not_eq_true', decide_eq_true_eq, decide_eq_false_iff_not] at hb'
  obtain ⟨⟨hg, _, hl⟩, hne⟩ := hb'
  have hg' : c.pr = c.conf := by
   refine Classical.byContradiction fun e => ?_
   rw [(gathB_iff c).2 e] at hg
   cases hg
  have hlt := hc i
  have er : (nextK c f).rd = c.count i + 1 := by
   show (c.count c.self.toNat + 1) % 4294967296 = _
   have hne' : ¬ c.count c.self.toNat = 4294967295 := hne
   rw [es] at hne' ⊢
   have : c.count i < 4294967296 := hlt
   omega
  have b := h.a.take (x := nextK c f) (q := i) (Nat.lt_of_lt_of_le h.a.hi h.a.hn) k.self er (.inl ⟨rfl, fun d hd hm => ?_⟩) fun e => absurd hg' e
  ·have e2 := say_app (i := i) (T := T) h.own h.inn (takeH (nextK c f))
   rw [e2] at b
   exact ⟨b, h.own, by show inOf I (t ++ [takeH (nextK c f)]) = c.conf; rw [inOf_app]; exact h.inn⟩
  ·rw [es] at hl
   show c.count i ≤ c.count d
   rw [hl]
   exact leastC_le _ _ _ ((mem_lst _ _).2 ⟨hd, hm⟩)
 ·exact h
theorem AtS.step {n : Nat} {s : Nat → Co × List Kt} {i o : Nat} {T : List Td} {I : Idn} {c : Co} {t : List Hp} {G : List Gh} {q : Os} (h : AtS n s i o T I ⟨c.wCount q.c, q.L, t ++ q.t.map takeH⟩ G) (hm : mostB c = true) (x : Kt)
  (hx : ∀ d, x.fr = ((d : Nat) : Int) → 1 ≤ x.rd → Own (T ++ tells i o I (t ++ q.t.map takeH)) c.conf d x.rd x.f) :
  AtS n s i o T I ⟨c.wCount (stepO c.mem (mostC c) q x).c, (stepO c.mem (mostC c) q x).L, t ++ (stepO c.mem (mostC c) q x).t.map takeH⟩ G := by
 unfold stepO
 split
 ·rename_i hb
  have k := h.a.c
  unfold offB takesB at hb
  simp only [Bool.and_eq_true, decide_eq_true_eq] at hb
  obtain ⟨⟨h0, h8⟩, hle, _, hr⟩ := hb
  obtain ⟨d, ed⟩ : ∃ d : Nat, x.fr = (d : Int) := ⟨x.fr.toNat, by omega⟩
  have et : x.fr.toNat = d := by rw [ed]; rfl
  rw [et] at hle hr
  have b := h.a.take (x := x) (q := d) (by omega) ed hr (.inr (hx d ed (by omega))) fun e => ?_
  ·have e2 := say_app (i := i) (T := T) (c := c.wCount q.c) h.own h.inn (takeH x)
   rw [e2] at b
   have em : t ++ q.t.map takeH ++ [takeH x] = t ++ (q.t ++ [x]).map takeH := by rw [List.map_append, List.append_assoc]; rfl
   rw [em] at b
   refine ⟨b, h.own, ?_⟩
   show inOf I (t ++ (q.t ++ [x]).map takeH) = c.conf
   rw [← em, inOf_app]
   exact h.inn
  ·have e' : c.pr ≠ c.conf := e
   have hgt := (gathB_iff c).2 e'
   unfold mostB at hm
   rw [hgt] at hm
   simp only [Bool.not_true, Bool.false_or, Bool.and_eq_true, Bool.not_eq_true'] at hm
   refine ⟨hm.1, ?_⟩
   unfold mostC at hle
   rw [if_pos hgt] at hle
   rcases targ_is c d (oth c.want c.self) c.cut with a | ⟨j, hj, a, a'⟩
   ·have h4 : c.cut d ≤ q.c d := k.g4 e d (by omega)
    have : targC c d = c.cut d := a
    omega
   ·obtain ⟨j1, j2, _⟩ := (mem_oth _ _ _).1 hj
    obtain ⟨b1, b2, b3⟩ := (goesB_iff c j).1 a
    have pe : PeI G j (c.peers j) := k.peers j j1
    have := pe.pr (by rw [b2, b3]; exact e')
    rw [b1, b2, b3] at this
    refine ⟨j, j1, j2, _, this, ?_⟩
    have : targC c d = (c.peers j).cut d := a'
    omega
 ·exact h
theorem AtS.offS {n : Nat} {s : Nat → Co × List Kt} {i o : Nat} {T : List Td} {I : Idn} {g : Sg} {G : List Gh} (h : AtS n s i o T I g G) {p : Pk} (hp : PI G (T ++ tells i o I g.t) p) : AtS n s i o T I (Go.Proofs.YthgfpdidilolgaaGreat.offS g p) G := by
 obtain ⟨c, L, t⟩ := g
 unfold Go.Proofs.YthgfpdidilolgaaGreat.offS
 split
 ·rename_i hb
  rw [Bool.and_eq_true, Idn.same_iff] at hb
  obtain ⟨hm, hc⟩ := hb
  have hc : p.conf = c.conf := hc
  have hm : mostB c = true := hm
  have ex : ∀ (u : List Hp) (d r : Nat) (f : Nat → En), Own (T ++ tells i o I t) c.conf d r f → Own (T ++ tells i o I (t ++ u)) c.conf d r f := fun u d r f a => by
   rw [tells_app, ← List.append_assoc]
   exact a.mono _
  have h0 : AtS n s i o T I ⟨c.wCount (Os.mk L c.count []).c, (Os.mk L c.count []).L, t ++ (Os.mk L c.count []).t.map takeH⟩ G := by
   have e : t ++ (Os.mk L c.count []).t.map takeH = t := List.append_nil t
   rw [e]
   exact h
  have h1 : AtS n s i o T I ⟨c.wCount (firstO c.mem (mostC c) p ⟨L, c.count, []⟩).c, (firstO c.mem (mostC c) p ⟨L, c.count, []⟩).L, t ++ (firstO c.mem (mostC c) p ⟨L, c.count, []⟩).t.map takeH⟩ G := by
   unfold firstO
   split
   ·rename_i h1
    refine h0.step hm (kO p) fun d hd _ => ex _ _ _ _ ?_
    have : p.n 0 = d := by have : ((p.n 0 : Nat) : Int) = (d : Int) := hd; omega
    rw [← this, ← hc]
    exact hp.o h1
   ·exact h0
  have h2 := h1.step hm (kN p) fun d hd hr => ex _ _ _ _ (by
   have : p.n 0 = d := by have : ((p.n 0 : Nat) : Int) = (d : Int) := hd; omega
   rw [← this, ← hc]
   exact hp.n hr)
  exact h2.step hm (kR p) fun d hd hr => ex _ _ _ _ (by
   have : p.n 107 = d := by have : ((p.n 107 : Nat) : Int) = (d : Int) := hd; omega
   rw [← this, ← hc]
   exact (hp.r hr).2)
 ·exact h
theorem At.recv {n : Nat} {s : Nat → Co × List Kt} {i : Nat} {c : Co} {L : List Kt} {G : List Gh} {T : List Td} (h : At n s i c L G T) {p : Pk} (hp : PI G T p) :
  ∃ G', (∀ x ∈ G, x ∈ G') ∧ At n s i (recvS c L p).c (recvS c L p).L G' (T ++ tells i c.own c.conf (recvS c L p).t) := by
 unfold recvS
 split
 ·have hh := h.hear hp
  have h0 : ∃ G', (∀ x ∈ G, x ∈ G') ∧ At n s i (recv0 c p) L G' T ∧ (recv0 c p).own = c.own ∧ (recv0 c p).conf = c.conf := by
   unfold recv0 adopC
   split
   ·rename_i hb
    unfold adoptB hasM at hb
    simp only [Bool.and_eq_true, decide_eq_true_eq] at hb
    obtain ⟨hlt, _, _, hn, hw⟩ := hb
    have hlt := cmpId_gt.1 hlt
    have es : (hearC c p).self.toNat = i := by rw [hh.c.self]; rfl
    rw [es] at hw
    have he : p.pr.e ≤ (hearC c p).epoch := Nat.le_trans (Nat.le_max_right _ _) (Nat.le_max_right _ _)
    have h0 : p.pr.e ≠ 0 := by
     intro e0
     obtain ⟨m, a, b⟩ := hp.pw
     have hi8 : i < 8 := Nat.lt_of_lt_of_le h.hi h.hn
     have f0 := (hh.g.f0 _ _ a e0).2 i hi8
     rw [← b i hi8, hw] at f0
     unfold put8 noMb at f0
     split at f0
     ·rename_i ei
      have ep : p.pr = ⟨0, i, (hearC c p).own⟩ := by
       rw [f0, ei, ← e0]
      have e1 : (hearC c p).pr.e = 0 := by unfold Idn.lt at hlt; omega
      have e2 : (hearC c p).pr = (hearC c p).conf := Classical.byContradiction fun e => (hh.c.g0 e).1 e1
      have e3 := (hh.c.ini (by rw [← e2]; exact e1)).1
      rw [e2, e3, ← ep] at hlt
      exact Idn.lt_irrefl _ hlt
     ·exact hh.c.own f0
    exact ⟨_, tl, hh.prom hlt he h0 hw hp.pw, rfl, rfl⟩
   ·exact ⟨G, fun _ h => h, hh, rfl, rfl⟩
  obtain ⟨G1, hG, a, e1, e2⟩ := h0
  have b : AtS n s i c.own T c.conf ⟨recv0 c p, L, []⟩ G1 := ⟨by show At n s i (recv0 c p) L G1 (T ++ []); rw [List.append_nil]; exact a, e1, e2.symm⟩
  have hp' : PI G1 (T ++ tells i c.own c.conf []) p := hp.mono hG _
  obtain ⟨G2, hG2, d⟩ := (b.offS hp').goOn
  exact ⟨G2, fun x hx => hG2 x (hG x hx), d.a⟩
 ·exact ⟨G, fun _ h => h, by show At n s i c L G (T ++ []); rw [List.append_nil]; exact h⟩
theorem At.tick {n : Nat} {s : Nat → Co × List Kt} {i : Nat} {c : Co} {L : List Kt} {G : List Gh} {T : List Td} (h : At n s i c L G T) (hf : c.fit) (f : Nat → En) :
  ∃ G', (∀ x ∈ G, x ∈ G') ∧ At n s i (tickS c L f).c (tickS c L f).L G' (T ++ tells i c.own c.conf (tickS c L f).t) := by
 have hb := h.beat (tickB c.beat)
 have hi8 : i < 8 := Nat.lt_of_lt_of_le h.hi h.hn
 have h0 : ∃ G', (∀ x ∈ G, x ∈ G') ∧ At n s i (tick0 c) L G' T ∧ (tick0 c).own = c.own ∧ (tick0 c).conf = c.conf ∧ (tick0 c).count = c.count := by
  unfold tick0 proposeC
  split
  ·rename_i hq
   rw [Bool.and_eq_true] at hq
   have es : (c.wBeat (tickB c.beat)).self.toNat = i := by rw [hb.c.self]; rfl
   have ei : propI (c.wBeat (tickB c.beat)) (reachC (c.wBeat (tickB c.beat))) = ⟨c.epoch + 1, i, c.own⟩ := by
    unfold propI
    rw [if_pos hq.2, es]
    rfl
   rw [ei]
   have hr : reachC (c.wBeat (tickB c.beat)) i = c.own := by
    show (if ((i : Nat) : Int) = c.self then c.own else _) = c.own
    rw [if_pos h.c.self.symm]
   have hm := hb.mint (reachC (c.wBeat (tickB c.beat)))
   have hX : ((c.wBeat (tickB c.beat)).wEpoch ((c.wBeat (tickB c.beat)).epoch + 1)).pr.lt ⟨c.epoch + 1, i, c.own⟩ := .inl (Nat.lt_succ_of_le h.c.ep)
   have a := hm.prom (X := ⟨c.epoch + 1, i, c.own⟩) hX (Nat.le_refl _) (Nat.succ_ne_zero _) hr ⟨_, List.mem_cons_self, fun _ _ => rfl⟩
   exact ⟨_, fun x hx => tl _ (tl _ hx), a, rfl, rfl, rfl⟩
  ·exact ⟨G, fun _ h => h, hb, rfl, rfl, rfl⟩
 obtain ⟨G1, hG, a, e1, e2, e3⟩ := h0
 have b : AtS n s i c.own T c.conf ⟨tick0 c, L, []⟩ G1 := ⟨by show At n s i (tick0 c) L G1 (T ++ []); rw [List.append_nil]; exact a, e1, e2.symm⟩
 obtain ⟨G2, hG2, d⟩ := b.goOn
 refine ⟨G2, fun x hx => hG2 x (hG x hx), (d.sendS (fun j => ?_) f).a⟩
 show (goOnS ⟨tick0 c, L, []⟩).c.count j < _
 rcases goOn_cases ⟨tick0 c, L, []⟩ with ⟨_, e⟩ | ⟨_, e⟩ <;> rw [e]
 ·show (0 : Nat) < _
  omega
 ·show (readyC (tick0 c)).count j < _
  rw [(readyC_keeps (tick0 c)).2.2.2.1, e3]
  exact hf.count j
end Go.Proofs.YthgfpdidilolgaaGreat
