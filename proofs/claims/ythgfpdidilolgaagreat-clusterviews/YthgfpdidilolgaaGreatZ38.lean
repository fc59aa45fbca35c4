/-
  Of the texts beneath these laws, in their order: ClS, ClT.
  Each theorem says its own conditions.
-/
import Derived.Test.YthgfpdidilolgaaGreatZ37
namespace Go.Proofs.YthgfpdidilolgaaGreat
set_option maxRecDepth 10000
open Go.RowKit Go.Sort
theorem CI.kp {i : Nat} {c : Co} {L : List Kt} {G : List Gh} {T : List Td} (k : CI i c L G T) (a : Option Addr) (n m : Nat) : CI i (c.kp a n m) L G T :=
 ⟨k.self, k.own, k.le, k.ep, k.wi, k.mi, k.pw1, k.pw2, k.peers, k.g0, k.g1, k.g2, k.g3, k.g4, k.ins, k.ini, k.viw, k.kept, k.kp1, k.kp2, k.cn, k.t4, k.t2, k.gp, k.gr, k.gk⟩
def LI (G : List Gh) (ls : List Le) : Prop := ∀ l ∈ ls, ∃ x : Pw, Gh.sn x ∈ G ∧ (∀ j, x.num j < 4294967296) ∧ x.ok = true ∧ (l.b = false → l.t = x.text) ∧ (l.b = true → l.t.size = 641 ∧ Eld.Crc.okL l.t.data.toList = false)
theorem LI.sub {G G' : List Gh} {ls ls' : List Le} (h : LI G ls) (hG : ∀ g ∈ G, g ∈ G') (hs : ∀ l ∈ ls', l ∈ ls) : LI G' ls' := fun l hl => by
 obtain ⟨x, a, b⟩ := h l (hs l hl)
 exact ⟨x, hG _ a, b⟩
theorem turn_list (s : ByteArray) (a m : Nat) (hm : m < 4294967296) : (trnT s a m).data.toList.take a = s.data.toList.take a ∧ (trnT s a m).data.toList.drop (a + 4) = s.data.toList.drop (a + 4) := by
 have hl : s.data.toList.length = s.size := by rw [Array.length_toList]; rfl
 have key : ∀ j, j < a ∨ a + 4 ≤ j → (trnT s a m).data.toList[j]? = s.data.toList[j]? := fun j hj => by
  unfold trnT
  rw [textOf_data]
  by_cases hjs : j < s.size
  ·rw [List.getElem?_map, List.getElem?_range hjs, Option.map_some, List.getElem?_eq_getElem (by omega)]
   unfold trnF at0
   rw [List.getD_eq_getElem?_getD, List.getElem?_eq_getElem (by omega : j < s.data.toList.length)]
   rcases hj with h | h
   ·rw [if_neg (by omega)]; rfl
   ·rw [if_pos (by omega), mskB_far m (j - a) hm (by omega)]; simp
  ·rw [List.getElem?_eq_none (by simp; omega), List.getElem?_eq_none (by omega)]
 constructor
 ·apply List.ext_getElem?
  intro j
  rw [List.getElem?_take, List.getElem?_take]
  split
  ·rename_i h; exact key j (.inl h)
  ·rfl
 ·apply List.ext_getElem?
  intro j
  rw [List.getElem?_drop, List.getElem?_drop]
  exact key _ (.inr (by omega))
theorem turn_bad (s : ByteArray) (hs : s.size = 641) (hok : Eld.Crc.okL s.data.toList = true) (a m : Nat) (hm : m < 4294967296) (hne : trnT s a m ≠ s) : (trnT s a m).size = 641 ∧ Eld.Crc.okL (trnT s a m).data.toList = false := by
 have hz := (trnT_size s a m).trans hs
 refine ⟨hz, ?_⟩
 obtain ⟨h1, h2⟩ := turn_list s a m hm
 generalize trnT s a m = u at *
 have hl : s.data.toList.length = 641 := by rw [Array.length_toList]; exact hs
 have hl2 : u.data.toList.length = 641 := by rw [Array.length_toList]; exact hz
 have := Eld.Crc.ok_window s.data.toList u.data.toList a (by omega) (by omega) hok h1 h2
 cases ho : Eld.Crc.okL u.data.toList with
 | false => rfl
 | true =>
  have e := this.1 ho
  refine absurd ?_ hne
  cases u
  cases s
  congr
  exact Array.toList_inj.1 e
theorem text_turn (x : Pw) (a m : Nat) (hm : m < 4294967296) (hne : trnT x.text a m ≠ x.text) : (trnT x.text a m).size = 641 ∧ Eld.Crc.okL (trnT x.text a m).data.toList = false := turn_bad x.text (text_size x) (text_ok x) a m hm hne
theorem LI.turn {G : List Gh} {ls : List Le} (h : LI G ls) (f u ix a : Int) (m : Nat) (hm : m < 4294967296) : LI G (trnL f u ix a m ls) := by
 unfold trnL
 split
 ·exact h
 ·rename_i p hp
  split
  ·exact h
  ·rename_i hb
   have hlt := pickL_lt hp
   intro l hl
   rcases List.mem_or_eq_of_mem_set hl with e | e
   ·exact h l e
   ·have hz : ls.getD p Le.zero ∈ ls := by
     rw [List.getD_eq_getElem?_getD, List.getElem?_eq_getElem hlt]
     exact List.getElem_mem _
    obtain ⟨x, x1, x2, x3, x4, _⟩ := h _ hz
    have hbf : (ls.getD p Le.zero).b = false := by
     cases hq : (ls.getD p Le.zero).b with
     | false => rfl
     | true => exact absurd (.inr hq) hb
    have et := x4 hbf
    rw [e]
    refine ⟨x, x1, x2, x3, fun h1 => ?_, fun h1 => ?_⟩
    ·have h1 : (!decide (trnT (ls.getD p Le.zero).t a.toNat m = (ls.getD p Le.zero).t)) = false := h1
     simp only [Bool.not_eq_false', decide_eq_true_eq] at h1
     show trnT (ls.getD p Le.zero).t a.toNat m = x.text
     rw [h1, et]
    ·have h1 : (!decide (trnT (ls.getD p Le.zero).t a.toNat m = (ls.getD p Le.zero).t)) = true := h1
     simp only [Bool.not_eq_true', decide_eq_false_iff_not] at h1
     show (trnT (ls.getD p Le.zero).t a.toNat m).size = 641 ∧ Eld.Crc.okL (trnT (ls.getD p Le.zero).t a.toNat m).data.toList = false
     rw [et] at h1 ⊢
     exact text_turn x _ _ hm h1
structure JI (n : Nat) (wt : Int) (k : Nat) (G : List Gh) (S : Cs) : Prop where
 l1 : S.cs.length = n
 l2 : S.up.length = n
 n8 : n ≤ 8
 w : S.wait = wt
 g : GI n G S.t
 c : ∀ (i : Nat) (x : Co × List Kt), S.cs[i]? = some x → CI i x.1 x.2 G S.t ∧ x.1.fit ∧ x.2.length ≤ 4 * k
 t : S.t.length ≤ 4 * k
 l : S.ls.length ≤ 4096
 li : LI G S.ls
theorem JI.at {n : Nat} {wt : Int} {k : Nat} {G : List Gh} {S : Cs} (h : JI n wt k G S) {i : Nat} {x : Co × List Kt} (hx : S.cs[i]? = some x) : At n (fun j => (S.cs[j]?).getD (Co.zero, [])) i x.1 x.2 G S.t := by
 have hi := (List.getElem?_eq_some_iff.1 hx).1
 refine ⟨by rw [← h.l1]; exact hi, h.n8, h.g, fun j hj _ => ?_, (h.c i x hx).1⟩
 have hj' : j < S.cs.length := by rw [h.l1]; exact hj
 show CI j ((S.cs[j]?).getD (Co.zero, [])).1 ((S.cs[j]?).getD (Co.zero, [])).2 G S.t
 rw [List.getElem?_eq_getElem hj']
 exact (h.c j _ (List.getElem?_eq_getElem hj')).1
theorem JI.next {n : Nat} {wt : Int} {k : Nat} {G : List Gh} {S : Cs} (h : JI n wt k G S) {i : Nat} {x : Co × List Kt} (hx : S.cs[i]? = some x) {c : Co} {L : List Kt} {G' : List Gh} {u : List Td} (ha : At n (fun j => (S.cs[j]?).getD (Co.zero, [])) i c L G' (S.t ++ u))
  (hf : c.fit) (hL : L.length ≤ x.2.length + 4) (hu : u.length ≤ 4) (a : Option Addr) (p q : Nat) {up : List Bool} (hup : up.length = n) {ls : List Le} (hl : ls.length ≤ 4096) (hli : LI G' ls) : JI n wt (k + 1) G' ⟨S.wait, S.cs.set i (c.kp a p q, L), up, ls, S.t ++ u⟩ := by
 have hi := (List.getElem?_eq_some_iff.1 hx).1
 refine ⟨by show (S.cs.set i _).length = n; rw [List.length_set]; exact h.l1, hup, h.n8, h.w, ha.g, fun j y hy => ?_, ?_, hl, hli⟩
 ·have hy' : (S.cs.set i (c.kp a p q, L))[j]? = some y := hy
  have h4 := (h.c i x hx).2.2
  by_cases e : i = j
  ·subst e
   rw [List.getElem?_set_self hi] at hy'
   cases hy'
   exact ⟨ha.c.kp a p q, fit_kp hf _ _ _, by show L.length ≤ _; omega⟩
  ·rw [List.getElem?_set_ne e] at hy'
   have hj := (List.getElem?_eq_some_iff.1 hy').1
   have := ha.o j (by rw [← h.l1]; exact hj) (Ne.symm e)
   rw [hy'] at this
   exact ⟨this, (h.c j y hy').2.1, by have := (h.c j y hy').2.2; omega⟩
 ·show (S.t ++ u).length ≤ _
  rw [List.length_append]
  have := h.t
  omega
theorem JI.stay {n : Nat} {wt : Int} {k : Nat} {G : List Gh} {S : Cs} (h : JI n wt k G S) {up : List Bool} (hup : up.length = n) {ls : List Le} (hl : ls.length ≤ 4096) (hli : LI G ls) : JI n wt (k + 1) G ⟨S.wait, S.cs, up, ls, S.t⟩ :=
 ⟨h.l1, hup, h.n8, h.w, h.g, fun i x hx => ⟨(h.c i x hx).1, (h.c i x hx).2.1, by have := (h.c i x hx).2.2; omega⟩, by show S.t.length ≤ _; have := h.t; omega, hl, hli⟩
theorem like_pk (x : Pw) (h : ∀ j, x.num j < 4294967296) : Like (x.pk h) x := by
 have key : ∀ i, i < 8 → x.num (13 + i) = x.count i ∧ x.num (24 + i) = x.want i := by
  intro i hi
  obtain rfl | rfl | rfl | rfl | rfl | rfl | rfl | rfl : i = 0 ∨ i = 1 ∨ i = 2 ∨ i = 3 ∨ i = 4 ∨ i = 5 ∨ i = 6 ∨ i = 7 := by omega
  all_goals exact ⟨rfl, rfl⟩
 exact ⟨rfl, rfl, rfl, rfl, key, rfl, rfl, fun _ _ => ⟨rfl, rfl, rfl⟩, rfl, rfl⟩
theorem put_sub {L X : List Le} : (∀ l ∈ putL L X, l ∈ L ∨ l ∈ X) ∧ (putL L X).length ≤ 4096 := by
 unfold putL
 refine ⟨fun l hl => ?_, ?_⟩
 ·rcases List.mem_append.1 hl with h | h
  ·exact .inl (List.mem_of_mem_take h)
  ·exact .inr (List.mem_of_mem_take h)
 ·rw [List.length_append, List.length_take, List.length_take]
  omega
def QG (G : List Gh) (y : Pw) : Prop := Gh.sn y ∈ G
theorem JI.step {n : Nat} {wt : Int} {k : Nat} {G : List Gh} {S : Cs} (h : JI n wt k G S) {d : De} (hm : d.m < 4294967296) {S' : Cs} (hN : Nxt (QG G) S d S') : ∃ G', JI n wt (k + 1) G' S' := by
 rcases hN with ⟨rfl, _⟩ | ⟨i, x, a, q, s, _, hi, hx, hs, rfl⟩ | ⟨ls, l, _, hl, hs, hn, hr⟩ | ⟨ls, _, hs, hn, rfl⟩ | ⟨_, rfl⟩ | ⟨_, rfl⟩ | ⟨_, rfl⟩
 ·exact ⟨G, h.stay h.l2 h.l h.li⟩
 ·have hi8 : i < 8 := Nat.lt_of_lt_of_le (by rw [← h.l1]; exact (List.getElem?_eq_some_iff.1 hx).1) h.n8
  obtain ⟨hc, hf, _⟩ := h.c i x hx
  obtain ⟨G1, hG1, a1⟩ := (h.at hx).tick hf (if frOk d.f = true then d.f else noFr)
  have hlen := tickS_len x.1 x.2 (if frOk d.f = true then d.f else noFr)
  have hft := fit_tick hf i hi8 hc.self x.2 (if frOk d.f = true then d.f else noFr)
  have hse := tickS_self x.1 x.2 (if frOk d.f = true then d.f else noFr)
  rw [← hs] at a1 hlen hft hse
  have eo : (s.c.kp a s.L.length q).own = x.1.own := hse.2
  have a2 := a1.send
  have hplt := pack_lt hft hi8 (hse.1.trans hc.self) s.L
  have hlu : (tells i x.1.own x.1.conf s.t).length ≤ 4 := by rw [tells_len]; omega
  unfold wriS becS
  rw [eo]
  split
  ·rename_i hok
   split
   ·exact ⟨_, h.next hx a1 hft (by omega) hlu a _ q h.l2 h.l (h.li.sub hG1 fun _ h => h)⟩
   ·refine ⟨_, h.next hx a2 hft (by omega) hlu a _ q h.l2 put_sub.2 fun l hl => ?_⟩
    rcases put_sub.1 l hl with e | e
    ·exact (h.li.sub (fun g hg => tl _ (hG1 g hg)) fun _ h => h) l e
    ·simp only [newL, List.mem_map] at e
     obtain ⟨j, _, e⟩ := e
     rw [← e]
     exact ⟨_, List.mem_cons_self, hplt, hok, fun _ => rfl, fun e => by cases e⟩
  ·exact ⟨_, h.next hx a1 hft (by omega) hlu a _ q h.l2 h.l (h.li.sub hG1 fun _ h => h)⟩
 ·skip
  have hl4 : ls.length ≤ 4096 := Nat.le_trans hn h.l
  rcases hr with rfl | ⟨i, x, y, hy, a, q, s, hQ, ht, hok, hx, hs', rfl⟩
  ·exact ⟨G, h.stay h.l2 hl4 (h.li.sub (fun _ h => h) hs)⟩
  ·have hx : S.cs[i]? = some x := hx
   obtain ⟨hc, hf, _⟩ := h.c i x hx
   have hp := h.g.snt y hQ (y.pk hy) (like_pk y hy)
   obtain ⟨G1, hG1, a1⟩ := (h.at hx).recv hp
   have hlen := recvS_len x.1 x.2 (y.pk hy)
   have hft := fit_recv hf x.2 (y.pk hy)
   have hse := recvS_self x.1 x.2 (y.pk hy)
   rw [← hs'] at a1 hlen hft hse
   have eo : (s.c.kp a s.L.length q).own = x.1.own := hse.2
   unfold becS
   rw [eo]
   exact ⟨_, h.next hx a1 hft (by omega) (by rw [tells_len]; omega) a _ q h.l2 hl4 (h.li.sub hG1 hs)⟩
 ·exact ⟨G, h.stay h.l2 (Nat.le_trans hn h.l) (h.li.sub (fun _ h => h) hs)⟩
 ·skip
  refine ⟨G, h.stay h.l2 ?_ (h.li.turn _ _ _ _ _ hm)⟩
  unfold trnL
  split
  ·exact h.l
  ·split
   ·exact h.l
   ·rw [List.length_set]; exact h.l
 ·skip
  unfold crashS
  split
  ·exact ⟨G, h.stay (by rw [List.length_set]; exact h.l2) h.l h.li⟩
  ·exact ⟨G, h.stay h.l2 h.l h.li⟩
 ·skip
  unfold upS
  split
  ·rename_i hd
   obtain ⟨hd, _⟩ := hd
   unfold isD at hd
   rw [decide_eq_true_eq] at hd
   obtain ⟨i, ei⟩ : ∃ i : Nat, d.who = (i : Int) := ⟨d.who.toNat, by omega⟩
   rw [ei, Int.toNat_natCast]
   split
   ·exact ⟨G, h.stay h.l2 h.l h.li⟩
   ·rename_i x hx
    split
    ·rename_i hs
     obtain ⟨hc, hf, _⟩ := h.c i x hx
     have ho := hf.own
     have eo : (x.1.own + 1) % 4294967296 = x.1.own + 1 := by
      have hs' := hs
      unfold startB at hs'
      rw [decide_eq_true_eq] at hs'
      omega
     rw [eo] at hs ⊢
     have a1 := (h.at hx).up S.wait hs
     have hft := fit_start (s := (i : Int)) (n := x.1.own + 1) (by omega) S.wait hs
     have hk : startC (i : Int) (x.1.own + 1) S.wait = (startC (i : Int) (x.1.own + 1) S.wait).kp (startC (i : Int) (x.1.own + 1) S.wait).ka (startC (i : Int) (x.1.own + 1) S.wait).kn (startC (i : Int) (x.1.own + 1) S.wait).kc := rfl
     have := h.next (u := []) hx (by rw [List.append_nil]; exact a1) hft (by simp) (by simp) (startC (i : Int) (x.1.own + 1) S.wait).ka (startC (i : Int) (x.1.own + 1) S.wait).kn (startC (i : Int) (x.1.own + 1) S.wait).kc (up := S.up.set i true) (by rw [List.length_set]; exact h.l2) h.l (h.li.sub tl fun _ h => h)
     rw [List.append_nil, ← hk] at this
     exact ⟨_, this⟩
    ·exact ⟨G, h.stay h.l2 h.l h.li⟩
  ·exact ⟨G, h.stay h.l2 h.l h.li⟩
theorem JI.first {n : Nat} {wt : Int} (hb : begB (n : Int) wt = true) {CS : List (Co × List Kt)} (hK : Kps (csB wt n) CS) : ∃ G, JI n wt 0 G ⟨wt, CS, List.replicate n true, [], []⟩ := by
 unfold begB at hb
 rw [decide_eq_true_eq] at hb
 have hst : ∀ i : Nat, i < n → startB (i : Int) 1 wt = true := fun i hi => by unfold startB; rw [decide_eq_true_eq]; omega
 have hmem : ∀ g, g ∈ (List.range n).map (fun i => Gh.pw ⟨0, i, 1⟩ (put8 noMb i 1)) ↔ ∃ i, i < n ∧ g = Gh.pw ⟨0, i, 1⟩ (put8 noMb i 1) := fun g => by
  simp only [List.mem_map, List.mem_range]
  exact ⟨fun ⟨i, a, b⟩ => ⟨i, a, b.symm⟩, fun ⟨i, a, b⟩ => ⟨i, a, b.symm⟩⟩
 refine ⟨(List.range n).map fun i => Gh.pw ⟨0, i, 1⟩ (put8 noMb i 1), ⟨by rw [← csB_len wt n]; exact hK.1, by simp, by omega, rfl, ?_, fun i x hx => ?_, Nat.le_refl _, Nat.zero_le _, fun l hl => by cases hl⟩⟩
 ·refine ⟨fun X m m' h1 h2 => ?_, fun X m h1 _ => ?_, fun d k X I C I' C' h1 => ?_, fun d k X h1 => ?_, fun i k X I K h1 => ?_, fun x h1 => ?_, fun A t B e => ?_, fun t ht => by cases ht⟩
  ·obtain ⟨i, _, e⟩ := (hmem _).1 h1
   obtain ⟨j, _, e'⟩ := (hmem _).1 h2
   cases e; cases e'
   exact fun _ _ => rfl
  ·obtain ⟨i, hi, e⟩ := (hmem _).1 h1
   cases e
   exact ⟨hi, fun _ _ => rfl⟩
  ·obtain ⟨i, _, e⟩ := (hmem _).1 h1; cases e
  ·obtain ⟨i, _, e⟩ := (hmem _).1 h1; cases e
  ·obtain ⟨i, _, e⟩ := (hmem _).1 h1; cases e
  ·obtain ⟨i, _, e⟩ := (hmem _).1 h1; cases e
  ·have := congrArg List.length e
   simp at this
 ·obtain ⟨y, a, k, h1, h2⟩ := hK.2 i x hx
  obtain ⟨hi, hy⟩ := csB_at h1
  rw [h2, hy]
  refine ⟨(ci_start wt (hst i hi) ((hmem _).2 ⟨i, hi, rfl⟩) (fun t ht => by cases ht) (fun X m h1 ec => ?_) (fun n' X I C h1 => ?_) (fun n' X I C h1 => ?_)).kp a 0 k, fit_kp (fit_start (by decide) wt (hst i hi)) _ _ _, Nat.le_refl _⟩
  ·obtain ⟨j, _, e⟩ := (hmem _).1 h1
   cases e
   exact ⟨Nat.le_refl _, fun _ => rfl⟩
  ·obtain ⟨j, _, e⟩ := (hmem _).1 h1; cases e
  ·obtain ⟨j, _, e⟩ := (hmem _).1 h1; cases e
theorem JI.good {n : Nat} {wt : Int} {k : Nat} {G : List Gh} {S : Cs} (h : JI n wt k G S) (hk : k ≤ 150) : Gd (4 * k) S ∧ 4 * k + 4 ≤ 1000000 ∧ ∀ l ∈ S.ls, Tx (QG G) l.t ∧ l.small := by
 refine ⟨⟨by omega, by rw [h.l1, h.l2], fun i x hx => ⟨?_, (h.c i x hx).1.self, (h.c i x hx).2.1, (h.c i x hx).2.2⟩, h.t, h.l⟩, by omega, fun l hl => ?_⟩
 ·have := (List.getElem?_eq_some_iff.1 hx).1
  have := h.n8
  have := h.l1
  omega
 ·obtain ⟨x, h1, h2, h3, h4, h5⟩ := h.li l hl
  cases hb : l.b with
  | false =>
   have e := h4 hb
   exact ⟨.inl ⟨x, h1, h2, h3, e⟩, by unfold Le.small; rw [e, text_size]; decide⟩
  | true =>
   obtain ⟨h6, h7⟩ := h5 hb
   exact ⟨.inr ⟨h6, h7⟩, by unfold Le.small; rw [h6]; decide⟩
end Go.Proofs.YthgfpdidilolgaaGreat
namespace Go.Proofs.YthgfpdidilolgaaGreat
set_option maxRecDepth 10000
set_option linter.unusedSimpArgs false
open Go.RowKit Go.Sort
set_option linter.unusedVariables false
def plv (n wt : Int) (v : Value) : Array Value := #[.int .i64 n, .int .i64 wt, v]
theorem sizePy : (Tryz.prog.info? 24).map (·.size) = some 3 := by kernel_rfl
def Pld (n : Nat) (wt : Int) (B : Nat) (e : Ending) (w' : World) : Prop :=
 ∃ S C ta tc, e = .returned (.tuple #[.agg C, .slice ta S.t.length tc, .bool true]) ∧ C.size = 4 ∧ C.all (·.oneCell') = true ∧ (∃ k G, JI n wt k G S) ∧ (S.t.length ≤ 600 ∧ S.t.length ≤ tc) ∧ Li Td.vals B ta S.t w'
set_option maxHeartbeats 8000000 in
theorem played_no (n wt : Int) (v : Value) (h : begB n wt = false) (w : World) : Calls Tryz.prog 16 #[.agg (plv n wt v)] w fun e w' => e = .returned (.tuple #[.agg (clc 0 (.slice none 0 0) (.slice none 0 0) (.slice none 0 0)), .slice none 0 0, .bool false]) ∧ Below w.heap.size w w' := by
 have pB := beg_no n wt h
 obtain ⟨b0, b1, hB⟩ := two_blk (T0 := 24) (T1 := 29) (C0 := plv n wt v) (C1 := (clc 0 (.slice none 0 0) (.slice none 0 0) (.slice none 0 0))) (w := w) rfl
 go_enter Tryz.func16, Tryz.ntmps16
 go_upto_region 1 with (go_big_may; refine alloc_zero zeroCl rfl rfl ?_)
 try simp only [Act.put, List.setIfInBounds_toArray, List.set_cons_zero, List.set_cons_succ]
 try simp only [alloc_size]
 generalize (w.alloc (Obj.cells (plv n wt v) 24)).alloc (Obj.cells (clc 0 (.slice none 0 0) (.slice none 0 0) (.slice none 0 0)) 29) = W at b0 b1 hB ⊢
 have c0 : W.cell? ⟨w.heap.size, 0, none⟩ = some (.int .i64 n) := b0.cell 0 _ rfl
 have c1 : W.cell? ⟨w.heap.size, 1, none⟩ = some (.int .i64 wt) := b0.cell 1 _ rfl
 go_wp2_with fail
 refine (pB _).mono ?_
 rintro r W3 ⟨rfl, hb⟩
 replace b1 := b1.below hb
 replace hB := hB.trans (hb.mono hB.size)
 have b5 := blk_new W3 (clc 0 (.slice none 0 0) (.slice none 0 0) (.slice none 0 0)) 29
 have hb5 := below_box W3 (.cells (clc 0 (.slice none 0 0) (.slice none 0 0) (.slice none 0 0)) 29)
 clear c0 c1 pB hb b0
 go_upto_region 2 with (go_big_may; first | refine alloc_zero zeroCl rfl rfl ?_ | refine store_new rfl 29 _ _ rfl (cells := (clc 0 (.slice none 0 0) (.slice none 0 0) (.slice none 0 0))) rfl rfl sizeCl rfl (clc_one _ _ _ _ _ _ _ _ _ _) ?_)
 try simp only [Act.put, List.setIfInBounds_toArray, List.set_cons_zero, List.set_cons_succ]
 generalize W3.alloc (Obj.cells (clc 0 (.slice none 0 0) (.slice none 0 0) (.slice none 0 0)) 29) = V at b5 hb5 ⊢
 replace b1 := b1.below hb5
 replace hB := hB.trans (hb5.mono hB.size)
 go_wp2_with (first | refine load_blk rfl 29 _ rfl b5 rfl Tryz.underlying29 rfl sizeCl ?_ | refine store_same rfl 29 _ _ rfl b1 rfl rfl sizeCl (clc_one _ _ _ _ _ _ _ _ _ _) ?_)
 (try simp only [Exit.inBlock, Exit.then])
 exact bodyPost_ret (w := V) (v := .tuple #[.agg (clc 0 (.slice none 0 0) (.slice none 0 0) (.slice none 0 0)), .slice none 0 0, .bool false]) (ret_ctt rfl rfl b1 Tryz.underlying29 rfl sizeCl rfl rfl) rfl ⟨rfl, hB⟩
set_option maxHeartbeats 8000000 in
theorem played_yes (n : Nat) (wt : Int) (D : List De) (da : Option Addr) (dc : Nat) (h : begB (n : Int) wt = true) (w : World) (hD : Li De.vals 0 da D w) (hDc : D.length ≤ dc) (hDm : D.length ≤ 9223372036854775807) (hDo : ∀ d ∈ D, d.ok) :
  Calls Tryz.prog 16 #[.agg (plv (n : Int) wt (.slice da D.length dc))] w fun e w' => Pld n wt w.heap.size e w' ∧ Below w.heap.size w w' := by
 have pB := beg_yes n wt h
 obtain ⟨m, em⟩ : ∃ m, Hid (min D.length 150 = m) := ⟨_, rfl⟩
 have hm1 : m ≤ 150 := by rw [← em.out]; exact Nat.min_le_right _ _
 have hm2 : m ≤ D.length := by rw [← em.out]; exact Nat.min_le_left _ _
 have hn8 : n ≤ 8 := by unfold begB at h; rw [decide_eq_true_eq] at h; omega
 have hE : (D.take m).length = m := by rw [List.length_take]; omega
 have pR0 := fun ca cc ua uc u' h1 h2 h4 => run_ok (fun k S => ∃ G, JI n wt k G S) wt (csB wt n) (List.replicate n true) [] ca ua none cc uc 0 (D.take m) da dc u' h1 h2 (.inl rfl) (by rw [csB_len]; exact hn8) (by simp; exact hn8) (by simp) (fun x hx => by
  obtain ⟨i, hi⟩ := List.getElem?_of_mem hx
  obtain ⟨_, e⟩ := csB_at hi
  rw [e]
  unfold startC
  split <;> exact ⟨rfl, rfl, rfl, rfl⟩) h4 (by rw [hE]; exact hm1) (fun d hd => hDo d (List.mem_of_mem_take hd)) (fun CS hK => JI.first h hK) (fun k S hk hj => by
  obtain ⟨G, hj⟩ := hj
  rw [hE] at hk
  obtain ⟨g1, g2, g3⟩ := hj.good (by omega)
  exact ⟨QG G, 4 * k, g1, g2, g3, fun d S' hd hN => hj.step (hDo d (List.mem_of_mem_take (List.mem_of_getElem? hd))).2.2 hN⟩)
 obtain ⟨nd, ed⟩ : ∃ nd, Hid (D.length = nd) := ⟨_, rfl⟩
 rw [hE] at pR0
 rw [ed.out] at hDc hDm hm2 em ⊢
 obtain ⟨b0, b1, hB⟩ := two_blk (T0 := 24) (T1 := 29) (C0 := plv (n : Int) wt (.slice da nd dc)) (C1 := (clc 0 (.slice none 0 0) (.slice none 0 0) (.slice none 0 0))) (w := w) rfl
 go_enter Tryz.func16, Tryz.ntmps16
 go_upto_region 1 with (go_big_may; refine alloc_zero zeroCl rfl rfl ?_)
 try simp only [Act.put, List.setIfInBounds_toArray, List.set_cons_zero, List.set_cons_succ]
 try simp only [alloc_size]
 generalize (w.alloc (Obj.cells (plv (n : Int) wt (.slice da nd dc)) 24)).alloc (Obj.cells (clc 0 (.slice none 0 0) (.slice none 0 0) (.slice none 0 0)) 29) = W at b0 b1 hB ⊢
 have c0 : W.cell? ⟨w.heap.size, 0, none⟩ = some (.int .i64 (n : Int)) := b0.cell 0 _ rfl
 have c1 : W.cell? ⟨w.heap.size, 1, none⟩ = some (.int .i64 wt) := b0.cell 1 _ rfl
 go_wp2_with fail
 refine (pB _).mono ?_
 rintro r W3 ⟨⟨ca, cc, ua, uc, rfl, hca, hua⟩, hb⟩
 have pR := pR0 ca cc ua uc
 rw [csB_len, List.length_replicate] at pR
 replace b0 := b0.below hb
 replace b1 := b1.below hb
 replace hB := hB.trans (hb.mono hB.size)
 have b5 := blk_new W3 (clc wt (.slice (some ca) n cc) (.slice (some ua) n uc) (.slice none 0 0)) 29
 have hb5 := below_box W3 (.cells (clc wt (.slice (some ca) n cc) (.slice (some ua) n uc) (.slice none 0 0)) 29)
 clear c0 c1 pB hb pR0
 go_upto_region 2 with (go_big_may; first | refine alloc_zero zeroCl rfl rfl ?_ | refine store_new rfl 29 _ _ rfl (cells := (clc wt (.slice (some ca) n cc) (.slice (some ua) n uc) (.slice none 0 0))) rfl rfl sizeCl rfl (clc_one _ _ _ _ _ _ _ _ _ _) ?_)
 try simp only [Act.put, List.setIfInBounds_toArray, List.set_cons_zero, List.set_cons_succ]
 generalize W3.alloc (Obj.cells (clc wt (.slice (some ca) n cc) (.slice (some ua) n uc) (.slice none 0 0)) 29) = V at b5 hb5 ⊢
 replace b0 := b0.below hb5
 replace b1 := b1.below hb5
 replace hB := hB.trans (hb5.mono hB.size)
 replace hca := (hca.below hb5).mono (Nat.zero_le _)
 replace hua := (hua.below hb5).mono (Nat.zero_le _)
 replace hD := (hD.take De.vals_length m).below hB
 clear hb5
 have hwV := b1.lt
 go_upto_region 4 with fail
 have hmin : min (nd : Int) 150 = (m : Int) := by rw [← em.out]; omega
 have hmc : m ≤ dc := by omega
 go_cut [7, 8] from 20 to 31 (fun pv tv wx => ∃ S C ta tc y, pv = .pointer (some ⟨y, 0, none⟩) ∧ tv = .slice ta S.t.length tc ∧ Blk y C 29 wx ∧ C.size = 4 ∧ C.all (·.oneCell') = true ∧ (∃ G, JI n wt m G S) ∧ S.t.length ≤ tc ∧ Li Td.vals V.heap.size ta S.t wx ∧ Below V.heap.size V wx)
 case first =>
  refine wp_region_held_drew (S := fun w' => Below V.heap.size V w') (by kernel_rfl) (Below.refl _ _).drew (fun hHeld => ?_)
  refine' tkH 0 (v := _) rfl (by kernel_rfl) (fun _ _ _ h => h) (yieldsIf_load_mid (by rfl) _ _ rfl W3.heap.size 0 rfl (clc wt (.slice (some ca) n cc) (.slice (some ua) n uc) (.slice none 0 0)).toList _ ?hS1 Tryz.underlying29 rfl sizeCl) hHeld ?_
  case hS1 => exact fun w h => (b5.below h).whole
  try simp only [yA, yB, yC, Act.put, yD, yE, yF]
  refine tkH 1 (v := ?v2) rfl (by kernel_rfl) (fun _ _ _ h => h) (Or.inl ⟨by rfl, ?hy2⟩) hHeld ?_
  case hy2 => (intro w hSw; clear hSw; go_simp; try with_reducible rfl)
  try simp only [yA, yB, yC, Act.put, yD, yE, yF]
  refine tkH 2 (v := ?v3) rfl (by kernel_rfl) (fun _ _ _ h => h) (Or.inl ⟨by rfl, ?hy3⟩) hHeld ?_
  case hy3 => (intro w hSw; have hc := (b0.below hSw).cell 2 (.slice da nd dc) rfl; clear hSw; go_simp; try with_reducible rfl)
  try simp only [yA, yB, yC, Act.put, yD, yE, yF]
  refine tkH 3 (v := ?v4) rfl (by kernel_rfl) (fun _ _ _ h => h) (Or.inl ⟨by rfl, ?hy4⟩) hHeld ?_
  case hy4 => (intro w hSw; clear hSw; go_simp; try with_reducible rfl)
  try simp only [yA, yB, yC, Act.put, yD, yE, yF]
  refine tkH 4 (v := ?v5) rfl (by kernel_rfl) (fun _ _ _ h => h) (Or.inl ⟨by rfl, ?hy5⟩) hHeld ?_
  case hy5 => (intro w hSw; have hc := (b0.below hSw).cell 2 (.slice da nd dc) rfl; clear hSw; go_simp; try with_reducible rfl)
  try simp only [yA, yB, yC, Act.put, yD, yE, yF]
  refine tkH 5 (v := ?v6) rfl (by kernel_rfl) (fun _ _ _ h => h) (Or.inl ⟨by rfl, ?hy6⟩) hHeld ?_
  case hy6 => (intro w hSw; clear hSw; go_simp; try with_reducible rfl)
  try simp only [yA, yB, yC, Act.put, yD, yE, yF]
  refine tkH 6 (v := ?v7) rfl (by kernel_rfl) (fun _ _ _ h => h) (Or.inl ⟨by rfl, ?hy7⟩) hHeld ?_
  case hy7 => (intro w hSw; clear hSw; go_simp; try with_reducible rfl)
  try simp only [yA, yB, yC, Act.put, yD, yE, yF]
  refine tkH 7 (v := ?v8) rfl (by kernel_rfl) (fun _ _ _ h => h) (Or.inl ⟨by rfl, ?hy8⟩) hHeld ?_
  case hy8 => (intro w hSw; clear hSw; go_simp; try with_reducible rfl)
  try simp only [yA, yB, yC, Act.put, yD, yE, yF]
  refine wpAnyH_ready (rs := [8, 12]) (by kernel_rfl) (by simp) ?_
  refine AllReadyH.cons rfl (fun K hK => ?_) (AllReadyH.cons rfl (fun K hK => ?_) (AllReadyH.nil))
  ·have hcz := hHeld.size
   go_simp
   go_wp2_with (refine (pR _ (hca.below hHeld) (hua.below hHeld) (hD.below hHeld)).mono ?_; rintro r u1 ⟨⟨S, g, cc, u, uc, la, lc, ta, tc, rfl, hJ, hcap, m2⟩, hb⟩)
   refine hK.out _ _ (hHeld.below hb) (fun hHeld => ?_)
   clear hK K hb
   refine tkH 9 (v := ?v9) rfl (by kernel_rfl) (fun _ _ _ h => h) (Or.inl ⟨by rfl, ?hy9⟩) hHeld ?_
   case hy9 => (intro w hSw; clear hSw; go_simp; try with_reducible rfl)
   try simp only [yA, yB, yC, Act.put, yD, yE, yF]
   refine tkH 10 (v := ?v10) rfl (by kernel_rfl) (fun _ _ _ h => h) (Or.inl ⟨by rfl, ?hy10⟩) hHeld ?_
   case hy10 => (intro w hSw; clear hSw; go_simp; try with_reducible rfl)
   try simp only [yA, yB, yC, Act.put, yD, yE, yF]
   refine tkH 11 (v := ?v11) rfl (by kernel_rfl) (fun _ _ _ h => h) (Or.inl ⟨by rfl, ?hy11⟩) hHeld ?_
   case hy11 => (intro w hSw; clear hSw; go_simp; try with_reducible rfl)
   try simp only [yA, yB, yC, Act.put, yD, yE, yF]
   refine wpAnyH_ready (rs := [12]) (by kernel_rfl) (by simp) ?_
   refine AllReadyH.cons rfl (fun K hK => ?_) (AllReadyH.nil)
   rw [if_pos (by rfl)]
   refine wp_alloc_any zeroCl rfl ?_
   intro yp u2 y0 hb yl yt
   have yg := Nat.le_trans hHeld.size yl
   have ho_m2 := Off.li m2 yp (.inr yl)
   replace m2 := m2.below hb
   refine hK.out _ _ (hHeld.below hb) (fun hHeld => ?_)
   clear hK K hb yl yt
   try simp only [yA, yB, yC, Act.put, yD, yE, yF]
   refine wpAnyH_ready (rs := [13]) (by kernel_rfl) (by simp) ?_
   refine AllReadyH.cons rfl (fun K hK => ?_) (AllReadyH.nil)
   rw [if_pos (by rfl)]
   refine wp_store_all 29 _ _ rfl (cells := (clc S.wait (.slice (some ⟨g, 0, none⟩) S.cs.length cc) (.slice (some ⟨u, 0, none⟩) S.up.length uc) (.slice la S.ls.length lc))) y0 rfl rfl sizeCl rfl (clc_one _ _ _ _ _ _ _ _ _ _) ?_
   intro u3 hn9 hk9
   replace y0 := hn9
   replace m2 := m2.off hk9 (fun q hq => by simp at hq; subst hq; exact ho_m2)
   refine hK.out _ _ (below_kp hHeld hk9 yg) (fun hHeld => ?_)
   clear hK K hk9 hn9
   try simp only [yA, yB, yC, Act.put, yD, yE, yF]
   refine tkH 14 (v := ?v12) rfl (by kernel_rfl) (fun _ _ _ h => h) (Or.inl ⟨by rfl, ?hy12⟩) hHeld ?_
   case hy12 => (intro w hSw; clear hSw; go_simp; try with_reducible rfl)
   try simp only [yA, yB, yC, Act.put, yD, yE, yF]
   refine wpAnyH_done (by kernel_rfl) ?_ _
   go_wp2_with fail
   go_meet
   exact ⟨S, (clc S.wait (.slice (some ⟨g, 0, none⟩) S.cs.length cc) (.slice (some ⟨u, 0, none⟩) S.up.length uc) (.slice la S.ls.length lc)), ta, tc, yp, rfl, rfl, y0, rfl, clc_one _ _ _ _ _ _ _ _ _ _, hJ, hcap, m2.mono hcz, hHeld⟩
  ·rw [if_pos (by rfl)]
   refine wp_alloc_any zeroCl rfl ?_
   intro yp u4 y0 hb yl yt
   have yg := Nat.le_trans hHeld.size yl
   refine hK.out _ _ (hHeld.below hb) (fun hHeld => ?_)
   clear hK K hb yl
   try simp only [yA, yB, yC, Act.put, yD, yE, yF]
   refine wpAnyH_ready (rs := [8]) (by kernel_rfl) (by simp) ?_
   refine AllReadyH.cons rfl (fun K hK => ?_) (AllReadyH.nil)
   have hcz := hHeld.size
   go_simp
   go_wp2_with (refine (pR _ (hca.below hHeld) (hua.below hHeld) (hD.below hHeld)).mono ?_; rintro r u5 ⟨⟨S, g, cc, u, uc, la, lc, ta, tc, rfl, hJ, hcap, m2⟩, hb⟩)
   replace y0 := y0.below hb
   have ho_m2 := Off.li m2 yp (.inl yt)
   refine hK.out _ _ (hHeld.below hb) (fun hHeld => ?_)
   clear hK K hb
   refine tkH 9 (v := ?v13) rfl (by kernel_rfl) (fun _ _ _ h => h) (Or.inl ⟨by rfl, ?hy13⟩) hHeld ?_
   case hy13 => (intro w hSw; clear hSw; go_simp; try with_reducible rfl)
   try simp only [yA, yB, yC, Act.put, yD, yE, yF]
   refine tkH 10 (v := ?v14) rfl (by kernel_rfl) (fun _ _ _ h => h) (Or.inl ⟨by rfl, ?hy14⟩) hHeld ?_
   case hy14 => (intro w hSw; clear hSw; go_simp; try with_reducible rfl)
   try simp only [yA, yB, yC, Act.put, yD, yE, yF]
   refine tkH 11 (v := ?v15) rfl (by kernel_rfl) (fun _ _ _ h => h) (Or.inl ⟨by rfl, ?hy15⟩) hHeld ?_
   case hy15 => (intro w hSw; clear hSw; go_simp; try with_reducible rfl)
   try simp only [yA, yB, yC, Act.put, yD, yE, yF]
   refine wpAnyH_ready (rs := [13]) (by kernel_rfl) (by simp) ?_
   refine AllReadyH.cons rfl (fun K hK => ?_) (AllReadyH.nil)
   rw [if_pos (by rfl)]
   refine wp_store_all 29 _ _ rfl (cells := (clc S.wait (.slice (some ⟨g, 0, none⟩) S.cs.length cc) (.slice (some ⟨u, 0, none⟩) S.up.length uc) (.slice la S.ls.length lc))) y0 rfl rfl sizeCl rfl (clc_one _ _ _ _ _ _ _ _ _ _) ?_
   intro u6 hn9 hk9
   replace y0 := hn9
   replace m2 := m2.off hk9 (fun q hq => by simp at hq; subst hq; exact ho_m2)
   refine hK.out _ _ (below_kp hHeld hk9 yg) (fun hHeld => ?_)
   clear hK K hk9 hn9
   try simp only [yA, yB, yC, Act.put, yD, yE, yF]
   refine tkH 14 (v := ?v16) rfl (by kernel_rfl) (fun _ _ _ h => h) (Or.inl ⟨by rfl, ?hy16⟩) hHeld ?_
   case hy16 => (intro w hSw; clear hSw; go_simp; try with_reducible rfl)
   try simp only [yA, yB, yC, Act.put, yD, yE, yF]
   refine wpAnyH_done (by kernel_rfl) ?_ _
   go_wp2_with fail
   go_meet
   exact ⟨S, (clc S.wait (.slice (some ⟨g, 0, none⟩) S.cs.length cc) (.slice (some ⟨u, 0, none⟩) S.up.length uc) (.slice la S.ls.length lc)), ta, tc, yp, rfl, rfl, y0, rfl, clc_one _ _ _ _ _ _ _ _ _ _, hJ, hcap, m2.mono hcz, hHeld⟩
 case rest =>
  obtain ⟨S, C, ta, tc, y, rfl, rfl, y0, hC1, hC2, ⟨G, hJ⟩, hcap, m2, hb3⟩ := hcut
  rename World => w4
  have hsz : (Tryz.prog.info? 29).map (·.size) = some C.size := by rw [hC1]; exact sizeCl
  replace b1 := b1.below hb3
  replace hB := hB.trans (hb3.mono hB.size)
  have hwV : w.heap.size + 1 < V.heap.size := hwV
  clear pR hca hua hD b0 b5
  go_wp2_with (first | (refine load_blk rfl 29 _ rfl y0 rfl Tryz.underlying29 rfl hsz ?_) | (refine store_part rfl 29 _ _ rfl (off := 0) (cells := C) b1 rfl rfl hsz (by rw [hC1]; exact Nat.le_refl _) hC2 ?_; intro w9 b9 k9; rw [putAt_all _ _ (by rw [hC1]; rfl)] at b9))
  (try simp only [Exit.inBlock, Exit.then])
  have m3 := m2.off k9 (by simpa using Off.li m2 _ (.inl hwV))
  exact bodyPost_ret (w := w9) (v := .tuple #[.agg C, .slice ta S.t.length tc, .bool true]) (ret_ctt rfl rfl b9 Tryz.underlying29 rfl hsz rfl rfl) rfl ⟨⟨S, C, ta, tc, rfl, hC1, hC2, ⟨m, G, hJ⟩, ⟨by have := hJ.t; omega, hcap⟩, m3.mono (by omega)⟩, below_kp hB k9 (Nat.le_succ _)⟩
end Go.Proofs.YthgfpdidilolgaaGreat
