/-
  Of the texts beneath these laws, in their order: CbV, CbW, CbX.
  Each theorem says its own conditions.
-/
import Derived.Test.YthgfpdidilolgaaGreatZ34
namespace Go.Proofs.YthgfpdidilolgaaGreat
set_option maxRecDepth 10000
open Go.RowKit Go.Sort
set_option linter.unusedVariables false
theorem tells_bare (i n : Nat) : ∀ (I : Idn) (hs ks : List Hp), hs.map Hp.bare = ks.map Hp.bare → (tells i n I hs).map Td.bare = (tells i n I ks).map Td.bare
 | I, [], [], _ => rfl
 | I, [], _ :: _, h => by simp at h
 | I, _ :: _, [], h => by simp at h
 | I, a :: hs, b :: ks, h => by
  rw [List.map_cons, List.map_cons, List.cons.injEq] at h
  have hv : a.view = b.view := by have := congrArg Hp.view h.1; exact this
  have hc : a.conf = b.conf := by have := congrArg Hp.conf h.1; exact this
  show Td.bare ⟨i, n, I, a⟩ :: (tells i n (if a.view = true then a.conf else I) hs).map Td.bare = Td.bare ⟨i, n, I, b⟩ :: (tells i n (if b.view = true then b.conf else I) ks).map Td.bare
  rw [hv, hc, tells_bare i n _ hs ks h.2]
  congr 1
  show Td.mk i n I a.bare = Td.mk i n I b.bare
  rw [h.1]
theorem al_bec {S U : Cs} (h : AlS S U) {i : Nat} (hi : i < S.cs.length) {s s' : Sg} (hb : Bs s s') (a a' : Option Addr) (p p' k k' : Nat) (I : Idn) : AlS (becS S i (s.c.kp a p k) s.L I s.t) (becS U i (s'.c.kp a' p' k') s'.L I s'.t) := by
 refine ⟨h.wait, by show (S.cs.set i _).length = (U.cs.set i _).length; rw [List.length_set, List.length_set]; exact h.len, fun j x y hx hy => ?_, h.up, h.ls, ?_⟩
 ·have hx' : (S.cs.set i (s.c.kp a p k, s.L))[j]? = some x := hx
  have hy' : (U.cs.set i (s'.c.kp a' p' k', s'.L))[j]? = some y := hy
  by_cases e : i = j
  ·subst e
   rw [List.getElem?_set_self hi] at hx'
   rw [List.getElem?_set_self (by rw [← h.len]; exact hi)] at hy'
   cases hx'
   cases hy'
   exact ⟨fun b q r => hb.c b q r, hb.L⟩
  ·rw [List.getElem?_set_ne e] at hx' hy'
   exact h.cs j x y hx' hy'
 ·show (S.t ++ tells i s.c.own I s.t).map Td.bare = (U.t ++ tells i s'.c.own I s'.t).map Td.bare
  have eo : s.c.own = s'.c.own := by
   obtain ⟨b, q, r, e⟩ := eq_kp hb.c
   rw [e]
   rfl
  rw [List.map_append, List.map_append, h.t, eo, tells_bare i s'.c.own I s.t s'.t hb.t]
theorem al_wri {S U : Cs} (h : AlS S U) (i : Nat) {x y : Pw} (hw : AlW x y) (hx : ∀ j, x.num j < 4294967296) (ox : x.ok = true) (oy : y.ok = true) : AlS (wriS S i x) (wriS U i y) := by
 have hn : Als (newL i x.text S.cs.length) (newL i y.text U.cs.length) := by
  rw [← h.len]
  exact al_newL ⟨x, y, hw, hx, ox, oy, rfl, rfl⟩ i _
 unfold wriS
 rw [if_pos ox, if_pos oy]
 by_cases e : newL i x.text S.cs.length = []
 ·have e' : newL i y.text U.cs.length = [] := List.length_eq_zero_iff.1 (by rw [← hn.1, e]; rfl)
  rw [if_pos e, if_pos e']
  exact h
 ·have e' : ¬ newL i y.text U.cs.length = [] := fun q => e (List.length_eq_zero_iff.1 (by rw [hn.1, q]; rfl))
  rw [if_neg e, if_neg e']
  exact ⟨h.wait, h.len, h.cs, h.up, h.ls.put hn, h.t⟩
theorem bad_text {t : ByteArray} (h : BadT t) (y : Pw) : t ≠ y.text := fun e => by
 have := text_ok y
 rw [← e, h.2] at this
 cases this
theorem al_rec {Q Q' : Pw → Prop} {S U S' U' : Cs} (h : AlS S U) {l l' : Le} (hl : AlL l l') (who : Int) (r1 : RcS Q S who l.t S') (r2 : RcS Q' U who l'.t U') : AlS S' U' := by
 rcases r1 with ⟨rfl, n1⟩ | ⟨i, x, y, hy, a, k, s, hw, hu, _, ht, hok, hx, hs, rfl⟩
 ·rcases r2 with ⟨rfl, _⟩ | ⟨i2, x2, y2, hy2, a2, k2, s2, hw2, hu2, _, ht2, hok2, hx2, hs2, rfl⟩
  ·exact h
  ·exfalso
   rcases n1 with n1 | n1
   ·rw [h.isUp, hu2] at n1; cases n1
   ·cases hb : l.b with
    | false =>
     obtain ⟨p, q, _, _, _, _, e1, _⟩ := hl.good hb
     exact bad_text n1 p e1
    | true => exact bad_text (hl.bad hb).2 y2 ht2
 ·rcases r2 with ⟨rfl, n2⟩ | ⟨i2, x2, y2, hy2, a2, k2, s2, hw2, hu2, _, ht2, hok2, hx2, hs2, rfl⟩
  ·exfalso
   rcases n2 with n2 | n2
   ·rw [← h.isUp, hu] at n2; cases n2
   ·cases hb : l.b with
    | false =>
     obtain ⟨p, q, _, _, _, _, _, e2⟩ := hl.good hb
     exact bad_text n2 q e2
    | true => exact bad_text (hl.bad hb).1 y ht
  ·obtain rfl : i = i2 := by omega
   cases hb : l.b with
   | true => exact absurd ht (bad_text (hl.bad hb).1 y)
   | false =>
    obtain ⟨p, q, hA, hp, op, oq, e1, e2⟩ := hl.good hb
    have hq : ∀ j, q.num j < 4294967296 := fun j => by rw [← hA.1 j]; exact hp j
    have t1 := text_num hy hp hok op (ht.symm.trans e1)
    have t2 := text_num hy2 hq hok2 oq (ht2.symm.trans e2)
    have hw3 : AlW y y2 := ⟨fun j => by rw [t1.1 j, hA.1 j, t2.1 j], by rw [t1.2, hA.2, t2.2]⟩
    have hc := h.cs i x x2 hx hx2
    have hbs := Bs.recv3 hc.c hc.L (y.pk hy) y2.f0 y2.f1 y2.f2
    rw [← hw3.pk hy hy2, ← hs, ← hs2] at hbs
    rw [hc.parts.2]
    exact al_bec h (List.getElem?_eq_some_iff.1 hx).1 hbs a a2 _ _ k k2 _
def De.with (d : De) (g : Nat → En) : De := ⟨d.d, d.who, d.u, d.ix, d.at_, d.m, g⟩
theorem AlS.step {Q Q' : Pw → Prop} {m m' : Nat} {S U S' U' : Cs} (h : AlS S U) (oS : OkS m S) (oU : OkS m' U) {d : De} (g : Nat → En) (hm : d.m < 4294967296) (N1 : Nxt Q S d S') (N2 : Nxt Q' U (d.with g) U') : AlS S' U' := by
 have hl : ∀ {L M : List Le}, Als L M → AlS ⟨S.wait, S.cs, S.up, L, S.t⟩ ⟨U.wait, U.cs, U.up, M, U.t⟩ := fun hA => ⟨h.wait, h.len, h.cs, h.up, hA, h.t⟩
 rcases N1 with ⟨d0, n1⟩ | ⟨d0, n1⟩ | ⟨d0, n1⟩ | ⟨d0, n1⟩ | ⟨d0, n1⟩ | ⟨d0, n1⟩ | ⟨d0, n1⟩ | ⟨d0, n1⟩ <;>
 rcases N2 with ⟨e0, n2⟩ | ⟨e0, n2⟩ | ⟨e0, n2⟩ | ⟨e0, n2⟩ | ⟨e0, n2⟩ | ⟨e0, n2⟩ | ⟨e0, n2⟩ | ⟨e0, n2⟩ <;>
 (have e0' := e0; simp only [De.with] at e0') <;> first | (exfalso; omega) | skip
 ·rcases n1 with ⟨u1, f1'⟩ | ⟨i, x, a, k, s, u1, hi, hx, hs, rfl⟩
  ·rcases n2 with ⟨u2, f2'⟩ | ⟨i2, x2, a2, k2, s2, u2, hi2, hx2, hs2, rfl⟩
   ·rw [f1', f2']; exact h
   ·exfalso
    have u2' : isUpB U d.who = true := u2
    rw [h.isUp, u2'] at u1; cases u1
  ·rcases n2 with ⟨u2, f2'⟩ | ⟨i2, x2, a2, k2, s2, u2, hi2, hx2, hs2, rfl⟩
   ·exfalso
    have u2' : isUpB U d.who = false := u2
    rw [h.isUp, u2'] at u1; cases u1
   ·obtain rfl : i = i2 := by have : d.who = (i2 : Int) := hi2; omega
    have hc := h.cs i x x2 hx hx2
    have hi8 : i < 8 := Nat.lt_of_lt_of_le (List.getElem?_eq_some_iff.1 hx).1 oS.n8
    obtain ⟨p1, p2, _, p4⟩ := oS.c i x hx
    obtain ⟨q1, q2, _, q4⟩ := oU.c i x2 hx2
    have hbs := Bs.tick3 hc.c hc.L (if frOk d.f = true then d.f else noFr) (if frOk (d.with g).f = true then (d.with g).f else noFr)
    have f1 : frOk (if frOk d.f = true then d.f else noFr) = true := by split; assumption; exact frOk_no
    have f2 : frOk (if frOk (d.with g).f = true then (d.with g).f else noFr) = true := by split; assumption; exact frOk_no
    have k1 := ok_tick p4 i hi8 p1 _ f1
    have k2' := ok_tick q4 i hi8 q1 _ f2
    have s1 := (tickS_self x.1 x.2 (if frOk d.f = true then d.f else noFr)).1.trans p1
    have s2' := (tickS_self x2.1 x2.2 (if frOk (d.with g).f = true then (d.with g).f else noFr)).1.trans q1
    have ft := fit_tick p2 i hi8 p1 x.2 (if frOk d.f = true then d.f else noFr)
    rw [← hs] at hbs k1 s1 ft
    rw [← hs2] at hbs k2' s2'
    rw [hc.parts.2]
    exact al_wri (al_bec h (List.getElem?_eq_some_iff.1 hx).1 hbs a a2 _ _ k k2 _) i (al_pack hbs.c hbs.L) (pack_lt ft hi8 s1 s.L) (ok_pack k1 i hi8 s1) (ok_pack k2' i hi8 s2')
 ·rcases n1 with ⟨u1, f1'⟩ | ⟨u1, r1⟩
  ·rcases n2 with ⟨u2, f2'⟩ | ⟨u2, r2⟩
   ·rw [f1', f2']; exact h
   ·exfalso
    have u2' : isL d.who d.u d.ix U.ls = true := u2
    rw [h.ls.is, u2'] at u1; cases u1
  ·rcases n2 with ⟨u2, f2'⟩ | ⟨u2, r2⟩
   ·exfalso
    have u2' : isL d.who d.u d.ix U.ls = false := u2
    rw [h.ls.is, u2'] at u1; cases u1
   ·exact al_rec (hl (h.ls.left d.who d.u d.ix)) (h.ls.got u1) d.u r1 r2
 ·rcases n1 with ⟨u1, f1'⟩ | ⟨u1, r1⟩
  ·rcases n2 with ⟨u2, f2'⟩ | ⟨u2, r2⟩
   ·rw [f1', f2']; exact h
   ·exfalso
    have u2' : isL d.who d.u d.ix U.ls = true := u2
    rw [h.ls.is, u2'] at u1; cases u1
  ·rcases n2 with ⟨u2, f2'⟩ | ⟨u2, r2⟩
   ·exfalso
    have u2' : isL d.who d.u d.ix U.ls = false := u2
    rw [h.ls.is, u2'] at u1; cases u1
   ·exact al_rec h (h.ls.got u1) d.u r1 r2
 ·subst n1 n2
  exact hl (h.ls.left d.who d.u d.ix)
 ·subst n1 n2
  exact hl (h.ls.trn d.who d.u d.ix d.at_ hm)
 ·subst n1 n2
  show AlS (crashS S d.who) (crashS U d.who)
  unfold crashS
  rw [← h.len]
  split
  ·exact ⟨h.wait, h.len, h.cs, by show S.up.set _ _ = U.up.set _ _; rw [h.up], h.ls, h.t⟩
  ·exact h
 ·subst n1 n2
  show AlS (upS S d.who) (upS U d.who)
  unfold upS
  rw [← h.len, ← h.up, ← h.wait]
  split
  ·cases e1 : S.cs[d.who.toNat]? with
   | none =>
    have e2 : U.cs[d.who.toNat]? = none := by
     rw [List.getElem?_eq_none_iff] at e1 ⊢
     rw [← h.len]; exact e1
    rw [e2]
    exact h
   | some x =>
    have hi := (List.getElem?_eq_some_iff.1 e1).1
    obtain ⟨y, e2⟩ : ∃ y, U.cs[d.who.toNat]? = some y := ⟨_, List.getElem?_eq_getElem (by rw [← h.len]; exact hi)⟩
    rw [e2]
    have hc := h.cs _ x y e1 e2
    simp only
    rw [← hc.parts.1]
    split
    ·refine ⟨rfl, by show (S.cs.set _ _).length = (U.cs.set _ _).length; rw [List.length_set, List.length_set]; exact h.len, fun j p q hp hq => ?_, rfl, h.ls, h.t⟩
     have hp' : (S.cs.set d.who.toNat (startC d.who ((x.1.own + 1) % 4294967296) S.wait, []))[j]? = some p := hp
     have hq' : (U.cs.set d.who.toNat (startC d.who ((x.1.own + 1) % 4294967296) S.wait, []))[j]? = some q := hq
     by_cases e : d.who.toNat = j
     ·subst e
      rw [List.getElem?_set_self hi] at hp'
      rw [List.getElem?_set_self (by rw [← h.len]; exact hi)] at hq'
      cases hp'
      cases hq'
      exact ⟨fun _ _ _ => rfl, trivial⟩
     ·rw [List.getElem?_set_ne e] at hp' hq'
      exact h.cs j p q hp' hq'
    ·exact h
  ·exact h
 ·subst n1 n2
  exact h
end Go.Proofs.YthgfpdidilolgaaGreat
namespace Go.Proofs.YthgfpdidilolgaaGreat
set_option maxRecDepth 10000
open Go.RowKit Go.Sort
set_option linter.unusedVariables false
def anyW : Pw → Prop := fun _ => True
structure Pr (m : Nat) (S U : Cs) : Prop where
 al : AlS S U
 oS : OkS m S
 oU : OkS m U
theorem al_tx {l l' : Le} (h : AlL l l') : (Tx anyW l.t ∧ l.small) ∧ (Tx anyW l'.t ∧ l'.small) := by
 cases hb : l.b with
 | false =>
  obtain ⟨x, y, hA, hx, ox, oy, e1, e2⟩ := h.good hb
  exact ⟨⟨.inl ⟨x, trivial, hx, ox, e1⟩, by unfold Le.small; rw [e1, text_size]; decide⟩, .inl ⟨y, trivial, fun j => by rw [← hA.1 j]; exact hx j, oy, e2⟩, by unfold Le.small; rw [e2, text_size]; decide⟩
 | true =>
  obtain ⟨h1, h2⟩ := h.bad hb
  exact ⟨⟨.inr h1, by unfold Le.small; rw [h1.1]; decide⟩, .inr h2, by unfold Le.small; rw [h2.1]; decide⟩
theorem Als.tx {L M : List Le} (h : Als L M) : (∀ l ∈ L, Tx anyW l.t ∧ l.small) ∧ (∀ l ∈ M, Tx anyW l.t ∧ l.small) := by
 refine ⟨fun l hl => ?_, fun l hl => ?_⟩
 ·obtain ⟨i, hi⟩ := List.getElem?_of_mem hl
  have h1 := (List.getElem?_eq_some_iff.1 hi).1
  exact (al_tx (h.2 i l _ hi (List.getElem?_eq_getElem (by rw [← h.1]; exact h1)))).1
 ·obtain ⟨i, hi⟩ := List.getElem?_of_mem hl
  have h1 := (List.getElem?_eq_some_iff.1 hi).1
  exact (al_tx (h.2 i _ l (List.getElem?_eq_getElem (by rw [h.1]; exact h1)) hi)).2
theorem OkS.kp {m : Nat} {S : Cs} (h : OkS m S) {CS : List (Co × List Kt)} (hk : KpL S.cs CS) (t : List Td) : OkS m ⟨S.wait, CS, S.up, S.ls, t⟩ := by
 refine ⟨by show CS.length ≤ 8; rw [hk.1]; exact h.n8, by show S.up.length = CS.length; rw [hk.1]; exact h.n, fun i x hx => ?_, h.l⟩
 obtain ⟨y, a, k, hy, rfl⟩ := hk.2 i x hx
 obtain ⟨h1, h2, h3, h4⟩ := h.c i y hy
 exact ⟨h1, fit_kp h2 _ _ _, h3, h4.kp _ _ _⟩
theorem AlS.kp {S U : Cs} (h : AlS S U) {C1 C2 : List (Co × List Kt)} (h1 : KpL S.cs C1) (h2 : KpL U.cs C2) : AlS ⟨S.wait, C1, S.up, S.ls, []⟩ ⟨U.wait, C2, U.up, U.ls, []⟩ := by
 refine ⟨h.wait, by show C1.length = C2.length; rw [h1.1, h2.1]; exact h.len, fun i x y hx hy => ?_, h.up, h.ls, rfl⟩
 obtain ⟨x0, a, k, hx0, rfl⟩ := h1.2 i x hx
 obtain ⟨y0, b, j, hy0, rfl⟩ := h2.2 i y hy
 have hc := h.cs i x0 y0 hx0 hy0
 exact ⟨fun p q r => hc.c p q r, hc.L⟩
theorem nxt_t {Q : Pw → Prop} {S : Cs} {d : De} {S' : Cs} (hN : Nxt Q S d S') : S'.t.length ≤ S.t.length + 4 := by
 have hw : ∀ (S : Cs) (i : Nat) (x : Pw), (wriS S i x).t = S.t := fun S i x => by
  unfold wriS
  split
  ·split <;> rfl
  ·rfl
 have hrec : ∀ (ls : List Le) (who : Int) (t : ByteArray) (S' : Cs), RcS Q ⟨S.wait, S.cs, S.up, ls, S.t⟩ who t S' → S'.t.length ≤ S.t.length + 4 := fun ls who t S' hr => by
  rcases hr with ⟨rfl, _⟩ | ⟨i, x, y, hy, a, q, s, _, _, _, _, hok, hx, hs, rfl⟩
  ·show S.t.length ≤ _; omega
  ·have hlen := recvS_len x.1 x.2 (y.pk hy)
   rw [← hs] at hlen
   show (S.t ++ tells i s.c.own x.1.conf s.t).length ≤ _
   rw [List.length_append, tells_len]
   omega
 rcases hN with ⟨_, e | ⟨i, x, a, k, s, _, _, hx, hs, rfl⟩⟩ | ⟨_, e | ⟨_, hr⟩⟩ | ⟨_, e | ⟨_, hr⟩⟩ | ⟨_, rfl⟩ | ⟨_, rfl⟩ | ⟨_, rfl⟩ | ⟨_, rfl⟩ | ⟨_, rfl⟩
 ·rw [e.2]; omega
 ·have hlen := tickS_len x.1 x.2 (if frOk d.f = true then d.f else noFr)
  rw [← hs] at hlen
  rw [hw]
  show (S.t ++ tells i s.c.own x.1.conf s.t).length ≤ _
  rw [List.length_append, tells_len]
  omega
 ·rw [e.2]; omega
 ·exact hrec _ _ _ _ hr
 ·rw [e.2]; omega
 ·exact hrec _ _ _ _ hr
 ·show S.t.length ≤ _; omega
 ·show S.t.length ≤ _; omega
 ·unfold crashS
  split <;> (show S.t.length ≤ _; omega)
 ·unfold upS
  split
  ·split
   ·omega
   ·split
    ·show S.t.length ≤ _; omega
    ·omega
  ·omega
 ·omega
theorem Pr.gd1 {m : Nat} {S U : Cs} (h : Pr m S U) (hm : m ≤ 1000000) : ∀ CS, KpL S.cs CS → Gd m ⟨S.wait, CS, S.up, S.ls, []⟩ := fun CS hk => (h.oS.kp hk []).gd hm (by simp)
theorem Pr.gd2 {m : Nat} {S U : Cs} (h : Pr m S U) (hm : m ≤ 1000000) : ∀ CS, KpL U.cs CS → Gd m ⟨U.wait, CS, U.up, U.ls, []⟩ := fun CS hk => (h.oU.kp hk []).gd hm (by simp)
theorem Pr.next {m : Nat} {S U S' U' : Cs} (h : Pr m S U) {C1 C2 : List (Co × List Kt)} (h1 : KpL S.cs C1) (h2 : KpL U.cs C2) {d : De} (g : Nat → En) (hd : d.ok) (N1 : Nxt anyW ⟨S.wait, C1, S.up, S.ls, []⟩ d S') (N2 : Nxt anyW ⟨U.wait, C2, U.up, U.ls, []⟩ (d.with g) U') : Pr (m + 4) S' U' ∧ S'.t.length ≤ 4 :=
 ⟨⟨(h.al.kp h1 h2).step (h.oS.kp h1 []) (h.oU.kp h2 []) g hd.2.2 N1 N2, (h.oS.kp h1 []).step N1, (h.oU.kp h2 []).step N2⟩, by simpa using nxt_t N1⟩
theorem Pr.len_t {m : Nat} {S U : Cs} (h : Pr m S U) : U.t.length = S.t.length := by
 have := congrArg List.length h.al.t
 simpa using this.symm
def begS (wt : Int) (n : Nat) : Cs := ⟨wt, csB wt n, List.replicate n true, [], []⟩
theorem Pr.first {wt : Int} {n : Nat} (hb : begB (n : Int) wt = true) : Pr 0 (begS wt n) (begS wt n) := by
 unfold begB at hb
 rw [decide_eq_true_eq] at hb
 have ho : OkS 0 (begS wt n) := by
  refine ⟨by show (csB wt n).length ≤ 8; rw [csB_len]; omega, by show (List.replicate n true).length = (csB wt n).length; rw [csB_len, List.length_replicate], fun i x hx => ?_, by show ([] : List Le).length ≤ _; simp⟩
  obtain ⟨hi, rfl⟩ := csB_at hx
  have hs : startB (i : Int) 1 wt = true := by unfold startB; rw [decide_eq_true_eq]; omega
  have hi8 : i < 8 := by omega
  refine ⟨?_, fit_start (by decide) wt hs, by simp, ?_⟩
  ·unfold startC; rw [if_pos hs]
  ·unfold startC
   rw [if_pos hs]
   exact ⟨by show (i : Int).toNat < 8; simp; exact hi8, by show (i : Int).toNat < 8; simp; exact hi8, fun k hk => by cases hk⟩
 refine ⟨⟨rfl, rfl, fun i x y hx hy => ?_, rfl, Als.nil, rfl⟩, ho, ho⟩
 rw [hx] at hy
 cases hy
 obtain ⟨_, rfl⟩ := csB_at hx
 exact ⟨fun _ _ _ => rfl, trivial⟩
end Go.Proofs.YthgfpdidilolgaaGreat
namespace Go.Proofs.YthgfpdidilolgaaGreat
set_option maxRecDepth 10000
open Go.RowKit Go.Sort
set_option linter.unusedVariables false
theorem off_by {α : Type} {f : α → List Value} {a : Option Addr} {L : List α} {w : World} {z : Nat} {C : Array Value} {T : TypeId} (φ : Value → Bool) (hC : C.all (fun v => !φ v) = true) (r : Nat) (hf : ∀ x, ∃ v, (f x)[r]? = some v ∧ φ v = true) (h : Li f 0 a L w) (hz : Blk z C T w) : Off a L z := by
 rcases h with h | ⟨b, o, e, _, _, hr2⟩
 ·exact .inl h
 ·cases L with
  | nil => exact .inl rfl
  | cons x L =>
   refine .inr fun hm => ?_
   rw [e] at hm
   simp [blkOf] at hm
   subst hm
   obtain ⟨v, hv, hne⟩ := hf x
   have hlt : r < (f x).length := (List.getElem?_eq_some_iff.1 hv).1
   have hc := hr2 r v (by rw [flat_cons, List.getElem?_append_left hlt]; exact hv)
   have hc2 : C[o + r]? = some v := by
    have e2 : w.cell? ⟨z, o + r, none⟩ = C[o + r]? := by
     have hz' : w.heap[z]? = some (Obj.cells C T) := hz
     simp [World.cell?, hz']
    rw [← e2]
    exact hc
   rw [Array.all_eq_true'] at hC
   have := hC v (Array.mem_of_getElem? hc2)
   rw [hne] at this
   cases this
def vBo : Value → Bool
 | .bool _ => true
 | _ => false
def vUb : Value → Bool
 | .int .u32 _ => true
 | .bool _ => true
 | _ => false
theorem de_noB (d : De) : d.arr.all (fun v => !vBo v) = true := by kernel_rfl
theorem clc_noUb (wt : Int) (a b c : Option Addr) (n m k p q r : Nat) : (clc wt (.slice a n p) (.slice b m q) (.slice c k r)).all (fun v => !vUb v) = true := by kernel_rfl
structure OffC (S : Cs) (ca ua : Addr) (la : Option Addr) (z : Nat) : Prop where
 c : Off (some ca) S.cs z
 u : Off (some ua) S.up z
 l : Off la S.ls z
 k : ∀ x ∈ S.cs, Off x.1.ka x.2 z
theorem Clv.kp {S : Cs} {ca ua : Addr} {la : Option Addr} {w w' : World} {z : Nat} (h : Clv S ca ua la w) (hk : Kp [z] w w') (ho : OffC S ca ua la z) : Clv S ca ua la w' :=
 ⟨h.c.off hk (by simpa using ho.c), h.u.off hk (by simpa using ho.u), h.l.off hk (by simpa using ho.l), fun x hx => ⟨(h.k x hx).1, (h.k x hx).2.off hk (by simpa using ho.k x hx)⟩⟩
theorem Clv.offC {S : Cs} {ca ua : Addr} {la : Option Addr} {w : World} {z : Nat} (h : Clv S ca ua la w) {wt : Int} {a b c : Option Addr} {n m k p q r : Nat} (hz : Blk z (clc wt (.slice a n p) (.slice b m q) (.slice c k r)) 29 w) : OffC S ca ua la z :=
 ⟨off_by vUb (clc_noUb _ _ _ _ _ _ _ _ _ _) 2 (fun x => ⟨_, rfl, rfl⟩) h.c hz, off_by vUb (clc_noUb _ _ _ _ _ _ _ _ _ _) 0 (fun x => ⟨_, rfl, rfl⟩) h.u hz, off_by vUb (clc_noUb _ _ _ _ _ _ _ _ _ _) 3 (fun x => ⟨_, rfl, rfl⟩) h.l hz, fun x hx => off_by vUb (clc_noUb _ _ _ _ _ _ _ _ _ _) 1 (fun x => ⟨_, rfl, rfl⟩) (h.k x hx).2 hz⟩
theorem Clv.offD {S : Cs} {g u : Nat} {la : Option Addr} {w : World} {z : Nat} (h : Clv S ⟨g, 0, none⟩ ⟨u, 0, none⟩ la w) {d : De} (hz : Blk z d.arr 45 w) {B : Nat} (hB : z < B) (hg : B ≤ g) (hu : B ≤ u) (hk : ∀ x ∈ S.cs, Li Kt.vals B x.1.ka x.2 w) : OffC S ⟨g, 0, none⟩ ⟨u, 0, none⟩ la z :=
 ⟨.inr (by simp [blkOf]; omega), .inr (by simp [blkOf]; omega), off_by vBo (de_noB d) 3 (fun x => ⟨_, rfl, rfl⟩) h.l hz, fun x hx => Off.li (hk x hx) z (.inl hB)⟩
theorem Clv.offN {S : Cs} {ca ua : Addr} {la : Option Addr} {w : World} {z : Nat} (h : Clv S ca ua la w) (hz : w.heap.size ≤ z) : OffC S ca ua la z :=
 ⟨Off.li h.c z (.inr hz), Off.li h.u z (.inr hz), Off.li h.l z (.inr hz), fun x hx => Off.li (h.k x hx).2 z (.inr hz)⟩
theorem td_offD {T : List Td} {ta : Option Addr} {w : World} {z : Nat} (h : Li Td.vals 0 ta T w) {d : De} (hz : Blk z d.arr 45 w) : Off ta T z := off_by vBo (de_noB d) 5 (fun x => ⟨_, rfl, rfl⟩) h hz
theorem De.putf (d : De) (g : Nat → En) : putAt d.arr 6 (frc g).toList = (d.with g).arr := by kernel_rfl
theorem De.with_with (d : De) (g h : Nat → En) : (d.with g).with h = d.with h := rfl
theorem De.with_ok {d : De} (h : d.ok) (g : Nat → En) : (d.with g).ok := h
theorem step1 {m : Nat} {S U : Cs} (h : Pr m S U) (hm : m + 4 ≤ 1000000) {ca ua : Addr} {la : Option Addr} (cc uc lc : Nat) {d : De} (hd : d.ok) (w : World) (hC : Clv S ca ua la w) :
  Calls Tryz.prog 13 #[.agg (clc S.wait (.slice (some ca) S.cs.length cc) (.slice (some ua) S.up.length uc) (.slice la S.ls.length lc)), .agg d.arr] w fun e w' => StpE anyW S.wait S.cs S.up S.ls d w.heap.size e w' ∧ Below w.heap.size w w' :=
 cstep_ok S.wait S.cs S.up S.ls ca ua la cc uc lc d w ⟨hC.c, hC.u, hC.l, hC.k⟩ h.oS.n8 (by rw [h.oS.n]; exact h.oS.n8) h.oS.l (h.gd1 (by omega)) hm hd (fun l hl => (h.al.ls.tx.1 l hl).1) (fun l hl => (h.al.ls.tx.1 l hl).2)
theorem step2 {m : Nat} {S U : Cs} (h : Pr m S U) (hm : m + 4 ≤ 1000000) {ca ua : Addr} {la : Option Addr} (cc uc lc : Nat) {d : De} (hd : d.ok) (w : World) (hC : Clv U ca ua la w) :
  Calls Tryz.prog 13 #[.agg (clc U.wait (.slice (some ca) U.cs.length cc) (.slice (some ua) U.up.length uc) (.slice la U.ls.length lc)), .agg d.arr] w fun e w' => StpE anyW U.wait U.cs U.up U.ls d w.heap.size e w' ∧ Below w.heap.size w w' :=
 cstep_ok U.wait U.cs U.up U.ls ca ua la cc uc lc d w ⟨hC.c, hC.u, hC.l, hC.k⟩ h.oU.n8 (by rw [h.oU.n]; exact h.oU.n8) h.oU.l (h.gd2 (by omega)) hm hd (fun l hl => (h.al.ls.tx.2 l hl).1) (fun l hl => (h.al.ls.tx.2 l hl).2)
theorem begin_clv {wt : Int} {n : Nat} {ca ua : Addr} {w : World} {B : Nat} (h1 : Li cov B (some ca) (csB wt n) w) (h2 : Li bvl B (some ua) (List.replicate n true) w) : Clv (begS wt n) ca ua none w :=
 ⟨h1.mono (Nat.zero_le _), h2.mono (Nat.zero_le _), .inl rfl, fun x hx => by
  obtain ⟨i, hi⟩ := List.getElem?_of_mem hx
  obtain ⟨_, rfl⟩ := csB_at hi
  refine ⟨?_, .inl rfl⟩
  show (startC (i : Int) 1 wt).kn = 0
  unfold startC
  split <;> rfl⟩
end Go.Proofs.YthgfpdidilolgaaGreat
