/-
  Of the texts beneath these laws, in their order: ClS, CbO, CbT, CbS.
  Each theorem says its own conditions.
-/
import Derived.Test.YthgfpdidilolgaaGreatZ32
import Derived.Test.YthgfpdidilolgaaGreatZ26
namespace Go.Proofs.YthgfpdidilolgaaGreat
set_option maxRecDepth 10000
open Go.RowKit Go.Sort
theorem CI.kp {i : Nat} {c : Co} {L : List Kt} {G : List Gh} {T : List Td} (k : CI i c L G T) (a : Option Addr) (n m : Nat) : CI i (c.kp a n m) L G T :=
 ⟨k.self, k.own, k.le, k.ep, k.wi, k.mi, k.pw1, k.pw2, k.peers, k.g0, k.g1, k.g2, k.g3, k.g4, k.ins, k.ini, k.viw, k.kept, k.kp1, k.kp2, k.cn, k.t4, k.t2, k.gp, k.gr, k.gk⟩
def LI (G : List Gh) (ls : List Le) : Prop := ∀ l ∈ ls, ∃ x : Pw, Gh.sn x ∈ G ∧ (∀ j, x.num j < 4294967296) ∧ x.ok = true ∧ (l.b = false → l.t = x.text) ∧ (l.b = true → l.t.size = 641 ∧ Eld.Crc.okL l.t.data.toList = false)
theorem LI.sub {G G' : List Gh} {ls ls' : List Le} (h : LI G ls) (hG : ∀ g ∈ G, g ∈ G') (hs : ∀ l ∈ ls', l ∈ ls) : LI G' ls' := fun l hl => by
 obtain ⟨x, a, b⟩ := h l (hs l hl)
 exact ⟨x, hG _ a, b⟩
theorem turn_list (s : ByteArray) (a m : Nat) (hm : m < 4294967296) : (trnT s a m).data.toList.take a = s.data.toList.take a ∧ (trnT s a m).data.toList.drop (a + 4) = s.data.toList.drop (a + 4) := by
 have hl : s.data.toList.length = s.size := by rw [Array.length_toList]; rfl
 have key : ∀ j, j < a ∨ a + 4 ≤ j → (trnT s a m).data.toList[j]? = s.data.toList[j]? := fun j hj => by
  unfold trnT
  rw [textOf_data]
  by_cases hjs : j < s.size
  ·rw [List.getElem?_map, List.getElem?_range hjs, Option.map_some, List.getElem?_eq_getElem (by omega)]
   unfold trnF at0
   rw [List.getD_eq_getElem?_getD, List.getElem?_eq_getElem (by omega : j < s.data.toList.length)]
   rcases hj with h | h
   ·rw [if_neg (by omega)]; rfl
   ·rw [if_pos (by omega), mskB_far m (j - a) hm (by omega)]; simp
  ·rw [List.getElem?_eq_none (by simp; omega), List.getElem?_eq_none (by omega)]
 constructor
 ·apply List.ext_getElem?
  intro j
  rw [List.getElem?_take, List.getElem?_take]
  split
  ·rename_i h; exact key j (.inl h)
  ·rfl
 ·apply List.ext_getElem?
  intro j
  rw [List.getElem?_drop, List.getElem?_drop]
  exact key _ (.inr (by omega))
theorem turn_bad (s : ByteArray) (hs : s.size = 641) (hok : Eld.Crc.okL s.data.toList = true) (a m : Nat) (hm : m < 4294967296) (hne : trnT s a m ≠ s) : (trnT s a m).size = 641 ∧ Eld.Crc.okL (trnT s a m).data.toList = false := by
 have hz := (trnT_size s a m).trans hs
 refine ⟨hz, ?_⟩
 obtain ⟨h1, h2⟩ := turn_list s a m hm
 generalize trnT s a m = u at *
 have hl : s.data.toList.length = 641 := by rw [Array.length_toList]; exact hs
 have hl2 : u.data.toList.length = 641 := by rw [Array.length_toList]; exact hz
 have := Eld.Crc.ok_window s.data.toList u.data.toList a (by omega) (by omega) hok h1 h2
 cases ho : Eld.Crc.okL u.data.toList with
 | false => rfl
 | true =>
  have e := this.1 ho
  refine absurd ?_ hne
  cases u
  cases s
  congr
  exact Array.toList_inj.1 e
theorem text_turn (x : Pw) (a m : Nat) (hm : m < 4294967296) (hne : trnT x.text a m ≠ x.text) : (trnT x.text a m).size = 641 ∧ Eld.Crc.okL (trnT x.text a m).data.toList = false := turn_bad x.text (text_size x) (text_ok x) a m hm hne
theorem LI.turn {G : List Gh} {ls : List Le} (h : LI G ls) (f u ix a : Int) (m : Nat) (hm : m < 4294967296) : LI G (trnL f u ix a m ls) := by
 unfold trnL
 split
 ·exact h
 ·rename_i p hp
  split
  ·exact h
  ·rename_i hb
   have hlt := pickL_lt hp
   intro l hl
   rcases List.mem_or_eq_of_mem_set hl with e | e
   ·exact h l e
   ·have hz : ls.getD p Le.zero ∈ ls := by
     rw [List.getD_eq_getElem?_getD, List.getElem?_eq_getElem hlt]
     exact List.getElem_mem _
    obtain ⟨x, x1, x2, x3, x4, _⟩ := h _ hz
    have hbf : (ls.getD p Le.zero).b = false := by
     cases hq : (ls.getD p Le.zero).b with
     | false => rfl
     | true => exact absurd (.inr hq) hb
    have et := x4 hbf
    rw [e]
    refine ⟨x, x1, x2, x3, fun h1 => ?_, fun h1 => ?_⟩
    ·have h1 : (!decide (trnT (ls.getD p Le.zero).t a.toNat m = (ls.getD p Le.zero).t)) = false := h1
     simp only [Bool.not_eq_false', decide_eq_true_eq] at h1
     show trnT (ls.getD p Le.zero).t a.toNat m = x.text
     rw [h1, et]
    ·have h1 : (!decide (trnT (ls.getD p Le.zero).t a.toNat m = (ls.getD p Le.zero).t)) = true := h1
     simp only [Bool.not_eq_true', decide_eq_false_iff_not] at h1
     show (trnT (ls.getD p Le.zero).t a.toNat m).size = 641 ∧ Eld.Crc.okL (trnT (ls.getD p Le.zero).t a.toNat m).data.toList = false
     rw [et] at h1 ⊢
     exact text_turn x _ _ hm h1
structure JI (n : Nat) (wt : Int) (k : Nat) (G : List Gh) (S : Cs) : Prop where
 l1 : S.cs.length = n
 l2 : S.up.length = n
 n8 : n ≤ 8
 w : S.wait = wt
 g : GI n G S.t
 c : ∀ (i : Nat) (x : Co × List Kt), S.cs[i]? = some x → CI i x.1 x.2 G S.t ∧ x.1.fit ∧ x.2.length ≤ 4 * k
 t : S.t.length ≤ 4 * k
 l : S.ls.length ≤ 4096
 li : LI G S.ls
theorem JI.at {n : Nat} {wt : Int} {k : Nat} {G : List Gh} {S : Cs} (h : JI n wt k G S) {i : Nat} {x : Co × List Kt} (hx : S.cs[i]? = some x) : At n (fun j => (S.cs[j]?).getD (Co.zero, [])) i x.1 x.2 G S.t := by
 have hi := (List.getElem?_eq_some_iff.1 hx).1
 refine ⟨by rw [← h.l1]; exact hi, h.n8, h.g, fun j hj _ => ?_, (h.c i x hx).1⟩
 have hj' : j < S.cs.length := by rw [h.l1]; exact hj
 show CI j ((S.cs[j]?).getD (Co.zero, [])).1 ((S.cs[j]?).getD (Co.zero, [])).2 G S.t
 rw [List.getElem?_eq_getElem hj']
 exact (h.c j _ (List.getElem?_eq_getElem hj')).1
theorem JI.next {n : Nat} {wt : Int} {k : Nat} {G : List Gh} {S : Cs} (h : JI n wt k G S) {i : Nat} {x : Co × List Kt} (hx : S.cs[i]? = some x) {c : Co} {L : List Kt} {G' : List Gh} {u : List Td} (ha : At n (fun j => (S.cs[j]?).getD (Co.zero, [])) i c L G' (S.t ++ u))
  (hf : c.fit) (hL : L.length ≤ x.2.length + 4) (hu : u.length ≤ 4) (a : Option Addr) (p q : Nat) {up : List Bool} (hup : up.length = n) {ls : List Le} (hl : ls.length ≤ 4096) (hli : LI G' ls) : JI n wt (k + 1) G' ⟨S.wait, S.cs.set i (c.kp a p q, L), up, ls, S.t ++ u⟩ := by
 have hi := (List.getElem?_eq_some_iff.1 hx).1
 refine ⟨by show (S.cs.set i _).length = n; rw [List.length_set]; exact h.l1, hup, h.n8, h.w, ha.g, fun j y hy => ?_, ?_, hl, hli⟩
 ·have hy' : (S.cs.set i (c.kp a p q, L))[j]? = some y := hy
  have h4 := (h.c i x hx).2.2
  by_cases e : i = j
  ·subst e
   rw [List.getElem?_set_self hi] at hy'
   cases hy'
   exact ⟨ha.c.kp a p q, fit_kp hf _ _ _, by show L.length ≤ _; omega⟩
  ·rw [List.getElem?_set_ne e] at hy'
   have hj := (List.getElem?_eq_some_iff.1 hy').1
   have := ha.o j (by rw [← h.l1]; exact hj) (Ne.symm e)
   rw [hy'] at this
   exact ⟨this, (h.c j y hy').2.1, by have := (h.c j y hy').2.2; omega⟩
 ·show (S.t ++ u).length ≤ _
  rw [List.length_append]
  have := h.t
  omega
theorem JI.stay {n : Nat} {wt : Int} {k : Nat} {G : List Gh} {S : Cs} (h : JI n wt k G S) {up : List Bool} (hup : up.length = n) {ls : List Le} (hl : ls.length ≤ 4096) (hli : LI G ls) : JI n wt (k + 1) G ⟨S.wait, S.cs, up, ls, S.t⟩ :=
 ⟨h.l1, hup, h.n8, h.w, h.g, fun i x hx => ⟨(h.c i x hx).1, (h.c i x hx).2.1, by have := (h.c i x hx).2.2; omega⟩, by show S.t.length ≤ _; have := h.t; omega, hl, hli⟩
theorem like_pk (x : Pw) (h : ∀ j, x.num j < 4294967296) : Like (x.pk h) x := by
 have key : ∀ i, i < 8 → x.num (13 + i) = x.count i ∧ x.num (24 + i) = x.want i := by
  intro i hi
  obtain rfl | rfl | rfl | rfl | rfl | rfl | rfl | rfl : i = 0 ∨ i = 1 ∨ i = 2 ∨ i = 3 ∨ i = 4 ∨ i = 5 ∨ i = 6 ∨ i = 7 := by omega
  all_goals exact ⟨rfl, rfl⟩
 exact ⟨rfl, rfl, rfl, rfl, key, rfl, rfl, fun _ _ => ⟨rfl, rfl, rfl⟩, rfl, rfl⟩
theorem put_sub {L X : List Le} : (∀ l ∈ putL L X, l ∈ L ∨ l ∈ X) ∧ (putL L X).length ≤ 4096 := by
 unfold putL
 refine ⟨fun l hl => ?_, ?_⟩
 ·rcases List.mem_append.1 hl with h | h
  ·exact .inl (List.mem_of_mem_take h)
  ·exact .inr (List.mem_of_mem_take h)
 ·rw [List.length_append, List.length_take, List.length_take]
  omega
def QG (G : List Gh) (y : Pw) : Prop := Gh.sn y ∈ G
theorem JI.step {n : Nat} {wt : Int} {k : Nat} {G : List Gh} {S : Cs} (h : JI n wt k G S) {d : De} (hm : d.m < 4294967296) {S' : Cs} (hN : Nxt (QG G) S d S') : ∃ G', JI n wt (k + 1) G' S' := by
 rcases hN.weak with ⟨rfl, _⟩ | ⟨i, x, a, q, s, _, hi, hx, hs, rfl⟩ | ⟨ls, l, wh, _, hl, hs, hn, hr⟩ | ⟨ls, _, hs, hn, rfl⟩ | ⟨_, rfl⟩ | ⟨_, rfl⟩ | ⟨_, rfl⟩
 ·exact ⟨G, h.stay h.l2 h.l h.li⟩
 ·have hi8 : i < 8 := Nat.lt_of_lt_of_le (by rw [← h.l1]; exact (List.getElem?_eq_some_iff.1 hx).1) h.n8
  obtain ⟨hc, hf, _⟩ := h.c i x hx
  obtain ⟨G1, hG1, a1⟩ := (h.at hx).tick hf (if frOk d.f = true then d.f else noFr)
  have hlen := tickS_len x.1 x.2 (if frOk d.f = true then d.f else noFr)
  have hft := fit_tick hf i hi8 hc.self x.2 (if frOk d.f = true then d.f else noFr)
  have hse := tickS_self x.1 x.2 (if frOk d.f = true then d.f else noFr)
  rw [← hs] at a1 hlen hft hse
  have eo : (s.c.kp a s.L.length q).own = x.1.own := hse.2
  have a2 := a1.send
  have hplt := pack_lt hft hi8 (hse.1.trans hc.self) s.L
  have hlu : (tells i x.1.own x.1.conf s.t).length ≤ 4 := by rw [tells_len]; omega
  unfold wriS becS
  rw [eo]
  split
  ·rename_i hok
   split
   ·exact ⟨_, h.next hx a1 hft (by omega) hlu a _ q h.l2 h.l (h.li.sub hG1 fun _ h => h)⟩
   ·refine ⟨_, h.next hx a2 hft (by omega) hlu a _ q h.l2 put_sub.2 fun l hl => ?_⟩
    rcases put_sub.1 l hl with e | e
    ·exact (h.li.sub (fun g hg => tl _ (hG1 g hg)) fun _ h => h) l e
    ·simp only [newL, List.mem_map] at e
     obtain ⟨j, _, e⟩ := e
     rw [← e]
     exact ⟨_, List.mem_cons_self, hplt, hok, fun _ => rfl, fun e => by cases e⟩
  ·exact ⟨_, h.next hx a1 hft (by omega) hlu a _ q h.l2 h.l (h.li.sub hG1 fun _ h => h)⟩
 ·skip
  have hl4 : ls.length ≤ 4096 := Nat.le_trans hn h.l
  rcases hr with ⟨rfl, _⟩ | ⟨i, x, y, hy, a, q, s, _, _, hQ, ht, hok, hx, hs', rfl⟩
  ·exact ⟨G, h.stay h.l2 hl4 (h.li.sub (fun _ h => h) hs)⟩
  ·have hx : S.cs[i]? = some x := hx
   obtain ⟨hc, hf, _⟩ := h.c i x hx
   have hp := h.g.snt y hQ (y.pk hy) (like_pk y hy)
   obtain ⟨G1, hG1, a1⟩ := (h.at hx).recv hp
   have hlen := recvS_len x.1 x.2 (y.pk hy)
   have hft := fit_recv hf x.2 (y.pk hy)
   have hse := recvS_self x.1 x.2 (y.pk hy)
   rw [← hs'] at a1 hlen hft hse
   have eo : (s.c.kp a s.L.length q).own = x.1.own := hse.2
   unfold becS
   rw [eo]
   exact ⟨_, h.next hx a1 hft (by omega) (by rw [tells_len]; omega) a _ q h.l2 hl4 (h.li.sub hG1 hs)⟩
 ·exact ⟨G, h.stay h.l2 (Nat.le_trans hn h.l) (h.li.sub (fun _ h => h) hs)⟩
 ·skip
  refine ⟨G, h.stay h.l2 ?_ (h.li.turn _ _ _ _ _ hm)⟩
  unfold trnL
  split
  ·exact h.l
  ·split
   ·exact h.l
   ·rw [List.length_set]; exact h.l
 ·skip
  unfold crashS
  split
  ·exact ⟨G, h.stay (by rw [List.length_set]; exact h.l2) h.l h.li⟩
  ·exact ⟨G, h.stay h.l2 h.l h.li⟩
 ·skip
  unfold upS
  split
  ·rename_i hd
   obtain ⟨hd, _⟩ := hd
   unfold isD at hd
   rw [decide_eq_true_eq] at hd
   obtain ⟨i, ei⟩ : ∃ i : Nat, d.who = (i : Int) := ⟨d.who.toNat, by omega⟩
   rw [ei, Int.toNat_natCast]
   split
   ·exact ⟨G, h.stay h.l2 h.l h.li⟩
   ·rename_i x hx
    split
    ·rename_i hs
     obtain ⟨hc, hf, _⟩ := h.c i x hx
     have ho := hf.own
     have eo : (x.1.own + 1) % 4294967296 = x.1.own + 1 := by
      have hs' := hs
      unfold startB at hs'
      rw [decide_eq_true_eq] at hs'
      omega
     rw [eo] at hs ⊢
     have a1 := (h.at hx).up S.wait hs
     have hft := fit_start (s := (i : Int)) (n := x.1.own + 1) (by omega) S.wait hs
     have hk : startC (i : Int) (x.1.own + 1) S.wait = (startC (i : Int) (x.1.own + 1) S.wait).kp (startC (i : Int) (x.1.own + 1) S.wait).ka (startC (i : Int) (x.1.own + 1) S.wait).kn (startC (i : Int) (x.1.own + 1) S.wait).kc := rfl
     have := h.next (u := []) hx (by rw [List.append_nil]; exact a1) hft (by simp) (by simp) (startC (i : Int) (x.1.own + 1) S.wait).ka (startC (i : Int) (x.1.own + 1) S.wait).kn (startC (i : Int) (x.1.own + 1) S.wait).kc (up := S.up.set i true) (by rw [List.length_set]; exact h.l2) h.l (h.li.sub tl fun _ h => h)
     rw [List.append_nil, ← hk] at this
     exact ⟨_, this⟩
    ·exact ⟨G, h.stay h.l2 h.l h.li⟩
  ·exact ⟨G, h.stay h.l2 h.l h.li⟩
theorem JI.first {n : Nat} {wt : Int} (hb : begB (n : Int) wt = true) {CS : List (Co × List Kt)} (hK : Kps (csB wt n) CS) : ∃ G, JI n wt 0 G ⟨wt, CS, List.replicate n true, [], []⟩ := by
 unfold begB at hb
 rw [decide_eq_true_eq] at hb
 have hst : ∀ i : Nat, i < n → startB (i : Int) 1 wt = true := fun i hi => by unfold startB; rw [decide_eq_true_eq]; omega
 have hmem : ∀ g, g ∈ (List.range n).map (fun i => Gh.pw ⟨0, i, 1⟩ (put8 noMb i 1)) ↔ ∃ i, i < n ∧ g = Gh.pw ⟨0, i, 1⟩ (put8 noMb i 1) := fun g => by
  simp only [List.mem_map, List.mem_range]
  exact ⟨fun ⟨i, a, b⟩ => ⟨i, a, b.symm⟩, fun ⟨i, a, b⟩ => ⟨i, a, b.symm⟩⟩
 refine ⟨(List.range n).map fun i => Gh.pw ⟨0, i, 1⟩ (put8 noMb i 1), ⟨by rw [← csB_len wt n]; exact hK.1, by simp, by omega, rfl, ?_, fun i x hx => ?_, Nat.le_refl _, Nat.zero_le _, fun l hl => by cases hl⟩⟩
 ·refine ⟨fun X m m' h1 h2 => ?_, fun X m h1 _ => ?_, fun d k X I C I' C' h1 => ?_, fun d k X h1 => ?_, fun i k X I K h1 => ?_, fun x h1 => ?_, fun A t B e => ?_, fun t ht => by cases ht⟩
  ·obtain ⟨i, _, e⟩ := (hmem _).1 h1
   obtain ⟨j, _, e'⟩ := (hmem _).1 h2
   cases e; cases e'
   exact fun _ _ => rfl
  ·obtain ⟨i, hi, e⟩ := (hmem _).1 h1
   cases e
   exact ⟨hi, fun _ _ => rfl⟩
  ·obtain ⟨i, _, e⟩ := (hmem _).1 h1; cases e
  ·obtain ⟨i, _, e⟩ := (hmem _).1 h1; cases e
  ·obtain ⟨i, _, e⟩ := (hmem _).1 h1; cases e
  ·obtain ⟨i, _, e⟩ := (hmem _).1 h1; cases e
  ·have := congrArg List.length e
   simp at this
 ·obtain ⟨y, a, k, h1, h2⟩ := hK.2 i x hx
  obtain ⟨hi, hy⟩ := csB_at h1
  rw [h2, hy]
  refine ⟨(ci_start wt (hst i hi) ((hmem _).2 ⟨i, hi, rfl⟩) (fun t ht => by cases ht) (fun X m h1 ec => ?_) (fun n' X I C h1 => ?_) (fun n' X I C h1 => ?_)).kp a 0 k, fit_kp (fit_start (by decide) wt (hst i hi)) _ _ _, Nat.le_refl _⟩
  ·obtain ⟨j, _, e⟩ := (hmem _).1 h1
   cases e
   exact ⟨Nat.le_refl _, fun _ => rfl⟩
  ·obtain ⟨j, _, e⟩ := (hmem _).1 h1; cases e
  ·obtain ⟨j, _, e⟩ := (hmem _).1 h1; cases e
theorem JI.good {n : Nat} {wt : Int} {k : Nat} {G : List Gh} {S : Cs} (h : JI n wt k G S) (hk : k ≤ 150) : Gd (4 * k) S ∧ 4 * k + 4 ≤ 1000000 ∧ ∀ l ∈ S.ls, Tx (QG G) l.t ∧ l.small := by
 refine ⟨⟨by omega, by rw [h.l1, h.l2], fun i x hx => ⟨?_, (h.c i x hx).1.self, (h.c i x hx).2.1, (h.c i x hx).2.2⟩, h.t, h.l⟩, by omega, fun l hl => ?_⟩
 ·have := (List.getElem?_eq_some_iff.1 hx).1
  have := h.n8
  have := h.l1
  omega
 ·obtain ⟨x, h1, h2, h3, h4, h5⟩ := h.li l hl
  cases hb : l.b with
  | false =>
   have e := h4 hb
   exact ⟨.inl ⟨x, h1, h2, h3, e⟩, by unfold Le.small; rw [e, text_size]; decide⟩
  | true =>
   obtain ⟨h6, h7⟩ := h5 hb
   exact ⟨.inr ⟨h6, h7⟩, by unfold Le.small; rw [h6]; decide⟩
end Go.Proofs.YthgfpdidilolgaaGreat
namespace Go.Proofs.YthgfpdidilolgaaGreat
set_option maxRecDepth 10000
open Go.RowKit Go.Sort
set_option linter.unusedVariables false
theorem frOk_no : frOk noFr = true := by kernel_rfl
theorem ok_eq (x : Pw) : x.ok = ((decide (x.fr < 8) && (decide (x.ro < 8) && (decide (x.conf.c < 8) && decide (x.pr.c < 8)))) && (frOk x.f0 && (frOk x.f1 && frOk x.f2))) := rfl
def Kt.ok (k : Kt) : Prop := frOk k.f = true ∧ ∃ i : Nat, i < 8 ∧ k.fr = (i : Int)
structure Ok7 (c : Co) (L : List Kt) : Prop where
 conf : c.conf.c < 8
 pr : c.pr.c < 8
 ks : ∀ k ∈ L, k.ok
theorem Ok7.kp {c : Co} {L : List Kt} (h : Ok7 c L) (a : Option Addr) (n k : Nat) : Ok7 (c.kp a n k) L := ⟨h.conf, h.pr, h.ks⟩
theorem ok_goOn {s : Sg} (h : Ok7 s.c s.L) : Ok7 (goOnS s).c (goOnS s).L := by
 obtain ⟨_, _, _, _, _, _, k7, _, k9, _⟩ := readyC_keeps s.c
 rcases goOn_cases s with ⟨_, e⟩ | ⟨_, e⟩ <;> rw [e]
 ·refine ⟨?_, ?_, fun k hk => by cases hk⟩
  ·show (readyC s.c).pr.c < 8; rw [k7]; exact h.pr
  ·show (readyC s.c).pr.c < 8; rw [k7]; exact h.pr
 ·refine ⟨?_, ?_, h.ks⟩
  ·show (readyC s.c).conf.c < 8; rw [k9]; exact h.conf
  ·show (readyC s.c).pr.c < 8; rw [k7]; exact h.pr
theorem ok_takeL {L : List Kt} (h : ∀ k ∈ L, k.ok) {x : Kt} (hx : x.ok) : ∀ k ∈ takeL L x, k.ok := by
 intro k hk
 rcases List.mem_append.1 hk with hk | hk
 ·exact h k (List.mem_filter.1 hk).1
 ·simp at hk
  rw [hk]
  exact hx
theorem ok_send {s : Sg} (h : Ok7 s.c s.L) (f : Nat → En) (hf : frOk f = true) (n : Nat) (hn : n < 8) (hs : s.c.self = (n : Int)) : Ok7 (sendS s f).c (sendS s f).L := by
 unfold sendS
 split
 ·exact ⟨h.conf, h.pr, ok_takeL h.ks ⟨hf, n, hn, hs⟩⟩
 ·exact h
theorem ok_step {m o : Nat → Nat} {s : Os} (h : ∀ k ∈ s.L, k.ok) (x : Kt) (hx : frOk x.f = true) : ∀ k ∈ (stepO m o s x).L, k.ok := by
 cases hb : offB s.c m o x with
 | false => rw [step_no m o s x hb]; exact h
 | true =>
  rw [step_yes m o s x hb]
  unfold offB at hb
  rw [Bool.and_eq_true] at hb
  have h8 := of_decide_eq_true hb.1
  exact ok_takeL h ⟨hx, x.fr.toNat, by omega, by omega⟩
theorem ok_offO {m o : Nat → Nat} {s : Os} (h : ∀ k ∈ s.L, k.ok) {p : Pk} (hp : p.n 22 < 8 ∧ frOk p.f0 = true ∧ frOk p.f1 = true ∧ frOk p.f2 = true) : ∀ k ∈ (offO m o p s).L, k.ok := by
 obtain ⟨_, h0, h1, h2⟩ := hp
 have hf : ∀ k ∈ (firstO m o p s).L, k.ok := by
  unfold firstO
  split
  ·exact ok_step h (kO p) h1
  ·exact h
 exact ok_step (ok_step hf (kN p) h0) (kR p) h2
theorem ok_off {s : Sg} (h : Ok7 s.c s.L) {p : Pk} (hp : p.n 22 < 8 ∧ frOk p.f0 = true ∧ frOk p.f1 = true ∧ frOk p.f2 = true) : Ok7 (offS s p).c (offS s p).L := by
 rcases offS_cases s p with ⟨_, e⟩ | ⟨_, e⟩ <;> rw [e]
 ·exact ⟨h.conf, h.pr, ok_offO (s := ⟨s.L, s.c.count, []⟩) h.ks hp⟩
 ·exact h
theorem ok_tick {c : Co} {L : List Kt} (h : Ok7 c L) (n : Nat) (hn : n < 8) (hs : c.self = (n : Int)) (f : Nat → En) (hf : frOk f = true) : Ok7 (tickS c L f).c (tickS c L f).L := by
 have h0 : Ok7 (tick0 c) L := by
  obtain ⟨_, _, _, _, _, k6, k7, _⟩ := proposeC_keeps (c.wBeat (tickB c.beat)) (reachC (c.wBeat (tickB c.beat)))
  refine ⟨?_, ?_, h.ks⟩
  ·unfold tick0 proposeC
   split <;> exact h.conf
  ·unfold tick0 proposeC
   split
   ·show (propI (c.wBeat (tickB c.beat)) (reachC (c.wBeat (tickB c.beat)))).c < 8
    unfold propI
    split
    ·show c.self.toNat < 8
     rw [hs]; simp; exact hn
    ·show 0 < 8
     omega
   ·exact h.pr
 have h1 : Ok7 (tick1 c L).c (tick1 c L).L := ok_goOn (s := ⟨tick0 c, L, []⟩) h0
 exact ok_send h1 f hf n hn ((goOn_self ⟨tick0 c, L, []⟩).trans ((tick0_self c).trans hs))
theorem ok_recv {c : Co} {L : List Kt} (h : Ok7 c L) {p : Pk} (hp : p.n 22 < 8 ∧ frOk p.f0 = true ∧ frOk p.f1 = true ∧ frOk p.f2 = true) : Ok7 (recvS c L p).c (recvS c L p).L := by
 unfold recvS
 split
 ·have h0 : Ok7 (recv0 c p) L := by
   refine ⟨?_, ?_, h.ks⟩
   ·unfold recv0 adopC
    split <;> exact h.conf
   ·unfold recv0 adopC
    split
    ·exact hp.1
    ·exact h.pr
  exact ok_goOn (ok_off (s := ⟨recv0 c p, L, []⟩) h0 hp)
 ·exact h
theorem ok_got {L : List Kt} (h : ∀ k ∈ L, k.ok) (i : Int) (r : Nat) : frOk (gotF (getK i r L)) = true := by
 cases hg : getK i r L with
 | none => exact frOk_no
 | some k => exact (h k (List.mem_of_find?_eq_some hg)).1
theorem ok_pick {L : List Kt} (h : ∀ k ∈ L, k.ok) (v : Nat) (hL : ¬ L.isEmpty = true) : (pickK L v).ok := by
 have hl : 0 < L.length := by
  cases L with
  | nil => simp at hL
  | cons => simp
 have hv : v % L.length < L.length := Nat.mod_lt _ hl
 unfold pickK
 rw [List.getElem?_eq_getElem hv]
 exact h _ (List.getElem_mem hv)
theorem ok_pack {c : Co} {L : List Kt} (h : Ok7 c L) (n : Nat) (hn : n < 8) (hs : c.self = (n : Int)) : (packW c L).ok = true := by
 have hro : relO L c.beat.now < 8 := by
  unfold relO
  split
  ·omega
  ·rename_i hL
   obtain ⟨_, i, hi, e⟩ := ok_pick h.ks c.beat.now hL
   rw [e]
   omega
 have h2 : frOk (relF L c.beat.now) = true := by
  unfold relF
  split
  ·exact frOk_no
  ·rename_i hL
   exact (ok_pick h.ks c.beat.now hL).1
 have h1 : frOk (if 0 < ownN c then gotF (getK c.self (ownN c - 1) L) else noFr) = true := by
  split
  ·exact ok_got h.ks _ _
  ·exact frOk_no
 have hfr : c.self.toNat < 8 := by rw [hs]; simp; exact hn
 rw [ok_eq]
 simp only [Bool.and_eq_true, decide_eq_true_eq]
 exact ⟨⟨hfr, hro, h.conf, h.pr⟩, ok_got h.ks _ _, h1, h2⟩
end Go.Proofs.YthgfpdidilolgaaGreat
namespace Go.Proofs.YthgfpdidilolgaaGreat
set_option maxRecDepth 10000
open Go.RowKit Go.Sort
set_option linter.unusedVariables false
theorem dig4 {x y : Nat} (hx : x < 4294967296) (hy : y < 4294967296) (h : Eld.Pack.digits 4 x = Eld.Pack.digits 4 y) : x = y := by
 have := Eld.Pack.digits_inj 4 x y h
 rw [Nat.mod_eq_of_lt (by omega), Nat.mod_eq_of_lt (by omega)] at this
 exact this
theorem dig1 {x y : Nat} (hx : x < 256) (hy : y < 256) (h : Eld.Pack.digits 1 x = Eld.Pack.digits 1 y) : x = y := by
 have := Eld.Pack.digits_inj 1 x y h
 rw [Nat.mod_eq_of_lt (by omega), Nat.mod_eq_of_lt (by omega)] at this
 exact this
theorem nums4 : ∀ (L M : List Nat), (∀ x ∈ L, x < 4294967296) → (∀ x ∈ M, x < 4294967296) → L.length = M.length → Eld.nums 4 L = Eld.nums 4 M → L = M
 | [], [], _, _, _, _ => rfl
 | [], _ :: _, _, _, h, _ => by simp at h
 | _ :: _, [], _, _, h, _ => by simp at h
 | x :: L, y :: M, h1, h2, hl, h => by
  have e : Eld.Pack.digits 4 x ++ Eld.nums 4 L = Eld.Pack.digits 4 y ++ Eld.nums 4 M := h
  obtain ⟨e1, e2⟩ := List.append_inj e (by rw [Eld.Pack.digits_length, Eld.Pack.digits_length])
  rw [dig4 (h1 x (by simp)) (h2 y (by simp)) e1, nums4 L M (fun z hz => h1 z (by simp [hz])) (fun z hz => h2 z (by simp [hz])) (by simpa using hl) e2]
theorem rown4 {n n' : Nat → Nat} (o : Nat) (h1 : ∀ i, n i < 4294967296) (h2 : ∀ i, n' i < 4294967296) (h : Eld.nums 4 (Eld.rown n o) = Eld.nums 4 (Eld.rown n' o)) : ∀ q, q < 8 → n (o + q) = n' (o + q) := by
 have e := nums4 (Eld.rown n o) (Eld.rown n' o) (fun x hx => by simp only [Eld.rown, List.mem_cons, List.not_mem_nil, or_false] at hx; rcases hx with rfl | rfl | rfl | rfl | rfl | rfl | rfl | rfl <;> exact h1 _) (fun x hx => by simp only [Eld.rown, List.mem_cons, List.not_mem_nil, or_false] at hx; rcases hx with rfl | rfl | rfl | rfl | rfl | rfl | rfl | rfl <;> exact h2 _) rfl h
 simp only [Eld.rown, List.cons.injEq, and_true] at e
 obtain ⟨e0, e1, e2, e3, e4, e5, e6, e7⟩ := e
 intro q hq
 have : q = 0 ∨ q = 1 ∨ q = 2 ∨ q = 3 ∨ q = 4 ∨ q = 5 ∨ q = 6 ∨ q = 7 := by omega
 rcases this with rfl | rfl | rfl | rfl | rfl | rfl | rfl | rfl
 ·exact e0
 ·exact e1
 ·exact e2
 ·exact e3
 ·exact e4
 ·exact e5
 ·exact e6
 ·exact e7
theorem idb4 {a b c a' b' c' : Nat} (ha : a < 4294967296) (hb : b < 8) (hc : c < 4294967296) (ha' : a' < 4294967296) (hb' : b' < 8) (hc' : c' < 4294967296) (h : Eld.idb a b c = Eld.idb a' b' c') : a = a' ∧ b = b' ∧ c = c' := by
 unfold Eld.idb at h
 obtain ⟨e1, h⟩ := List.append_inj h (by rw [Eld.Pack.digits_length, Eld.Pack.digits_length])
 obtain ⟨e2, e3⟩ := List.append_inj h (by rw [Eld.Pack.digits_length, Eld.Pack.digits_length])
 exact ⟨dig4 ha ha' e1, dig1 (by omega) (by omega) e2, dig4 hc hc' e3⟩
theorem text_num {x y : Pw} (hx : ∀ i, x.num i < 4294967296) (hy : ∀ i, y.num i < 4294967296) (ox : x.ok = true) (oy : y.ok = true) (h : x.text = y.text) : (∀ i, x.num i = y.num i) ∧ x.rdy = y.rdy := by
 obtain ⟨x0, x107, x3, x22, _, _, _⟩ := Eld.Pk.may_parts ox
 obtain ⟨y0, y107, y3, y22, _, _, _⟩ := Eld.Pk.may_parts oy
 have hb : x.eld.body = y.eld.body := by
  have e : x.text.data.toList = y.text.data.toList := by rw [h]
  unfold Pw.text at e
  rw [Eld.sealed_list, Eld.sealed_list] at e
  have hl : (x.eld.body ++ Eld.Crc.fourL (Eld.Crc.sum x.eld.body)).length = (y.eld.body ++ Eld.Crc.fourL (Eld.Crc.sum y.eld.body)).length := by rw [e]
  refine (List.append_inj e ?_).1
  have l4 : ∀ r, (Eld.Crc.fourL r).length = 4 := fun r => rfl
  rw [List.length_append, List.length_append, l4, l4] at hl
  omega
 unfold Eld.Pk.body Eld.rawb at hb
 obtain ⟨e0, hb⟩ := List.append_inj hb (by rw [Eld.Pack.digits_length, Eld.Pack.digits_length])
 obtain ⟨e1, hb⟩ := List.append_inj hb (by rw [Eld.Pack.digits_length, Eld.Pack.digits_length])
 obtain ⟨e2, hb⟩ := List.append_inj hb (by rw [Eld.idb_length, Eld.idb_length])
 obtain ⟨e5, hb⟩ := List.append_inj hb (by rw [Eld.rown_length, Eld.rown_length])
 obtain ⟨e13, hb⟩ := List.append_inj hb (by rw [Eld.rown_length, Eld.rown_length])
 obtain ⟨e21, hb⟩ := List.append_inj hb (by rw [Eld.idb_length, Eld.idb_length])
 obtain ⟨e24, hb⟩ := List.append_inj hb (by rw [Eld.rown_length, Eld.rown_length])
 obtain ⟨er, hb⟩ := List.append_inj hb (by rw [Eld.Pack.digits_length, Eld.Pack.digits_length])
 obtain ⟨e33, hb⟩ := List.append_inj hb (by rw [Eld.Pack.digits_length, Eld.Pack.digits_length])
 obtain ⟨e34, hb⟩ := List.append_inj hb (by rw [Eld.Pack.digits_length, Eld.Pack.digits_length])
 obtain ⟨_, hb⟩ := List.append_inj hb (by rw [Eld.frb_length, Eld.frb_length])
 obtain ⟨_, hb⟩ := List.append_inj hb (by rw [Eld.frb_length, Eld.frb_length])
 obtain ⟨e107, hb⟩ := List.append_inj hb (by rw [Eld.Pack.digits_length, Eld.Pack.digits_length])
 obtain ⟨e108, _⟩ := List.append_inj hb (by rw [Eld.Pack.digits_length, Eld.Pack.digits_length])
 have a0 : x.num 0 = y.num 0 := dig1 (Nat.lt_trans x0 (by decide)) (Nat.lt_trans y0 (by decide)) e0
 have a1 : x.num 1 = y.num 1 := dig4 (hx 1) (hy 1) e1
 obtain ⟨a2, a3, a4⟩ := idb4 (hx 2) x3 (hx 4) (hy 2) y3 (hy 4) e2
 have a5 := rown4 5 hx hy e5
 have a13 := rown4 13 hx hy e13
 obtain ⟨a21, a22, a23⟩ := idb4 (hx 21) x22 (hx 23) (hy 21) y22 (hy 23) e21
 have a24 := rown4 24 hx hy e24
 have a33 : x.num 33 = y.num 33 := dig4 (hx 33) (hy 33) e33
 have a34 : x.num 34 = y.num 34 := dig4 (hx 34) (hy 34) e34
 have a107 : x.num 107 = y.num 107 := dig1 (Nat.lt_trans x107 (by decide)) (Nat.lt_trans y107 (by decide)) e107
 have a108 : x.num 108 = y.num 108 := dig4 (hx 108) (hy 108) e108
 refine ⟨fun i => ?_, ?_⟩
 ·by_cases h0 : i = 0
  ·subst h0; exact a0
  by_cases h1 : i = 1
  ·subst h1; exact a1
  by_cases h2 : i = 2
  ·subst h2; exact a2
  by_cases h3 : i = 3
  ·subst h3; exact a3
  by_cases h4 : i = 4
  ·subst h4; exact a4
  by_cases h5 : i < 13
  ·have := a5 (i - 5) (by omega)
   rw [show 5 + (i - 5) = i by omega] at this
   exact this
  by_cases h13 : i < 21
  ·have := a13 (i - 13) (by omega)
   rw [show 13 + (i - 13) = i by omega] at this
   exact this
  by_cases h21 : i = 21
  ·subst h21; exact a21
  by_cases h22 : i = 22
  ·subst h22; exact a22
  by_cases h23 : i = 23
  ·subst h23; exact a23
  by_cases h24 : i < 32
  ·have := a24 (i - 24) (by omega)
   rw [show 24 + (i - 24) = i by omega] at this
   exact this
  by_cases h33 : i = 33
  ·subst h33; exact a33
  by_cases h34 : i = 34
  ·subst h34; exact a34
  by_cases h107 : i = 107
  ·subst h107; exact a107
  by_cases h108 : i = 108
  ·subst h108; exact a108
  have z : ∀ p : Pw, p.num i = 0 := fun p => by
   unfold Pw.num
   rw [if_neg h0, if_neg h1, if_neg h2, if_neg h3, if_neg h4, if_neg h5, if_neg h13, if_neg h21, if_neg h22, if_neg h23, if_neg h24, if_neg h33, if_neg h34, if_neg h107, if_neg h108]
  rw [z x, z y]
 ·have er' := dig1 (by split <;> decide) (by split <;> decide) er
  have hr : (if x.rdy then (1 : Nat) else 0) = if y.rdy then 1 else 0 := er'
  cases hx' : x.rdy <;> cases hy' : y.rdy <;> rw [hx', hy'] at hr <;> first | rfl | (simp at hr)
end Go.Proofs.YthgfpdidilolgaaGreat
namespace Go.Proofs.YthgfpdidilolgaaGreat
set_option maxRecDepth 10000
open Go.RowKit Go.Sort
set_option linter.unusedVariables false
def AlW (x y : Pw) : Prop := (∀ i, x.num i = y.num i) ∧ x.rdy = y.rdy
theorem AlW.pk {x y : Pw} (h : AlW x y) (hx : ∀ i, x.num i < 4294967296) (hy : ∀ i, y.num i < 4294967296) : y.pk hy = pq3 (x.pk hx) y.f0 y.f1 y.f2 := by
 have e : y.num = x.num := funext fun i => (h.1 i).symm
 unfold Pw.pk pq3
 simp only [e, h.2]
theorem likes_pick {L M : List Kt} (h : likes L M) (v : Nat) (hL : ¬ L.isEmpty = true) : (pickK L v).like (pickK M v) := by
 have hl := likes_len L M h
 have h0 : 0 < L.length := by
  cases L with
  | nil => simp at hL
  | cons => simp
 have hv : v % L.length < L.length := Nat.mod_lt _ h0
 have hv' : v % M.length < M.length := by rw [← hl]; exact hv
 unfold pickK
 rw [List.getElem?_eq_getElem hv, List.getElem?_eq_getElem hv']
 refine likes_at L M h (v % L.length) _ _ (List.getElem?_eq_getElem hv) ?_
 rw [List.getElem?_eq_getElem (by rw [← hl]; exact hv)]
 simp only [hl]
 rfl
theorem likes_empty {L M : List Kt} (h : likes L M) : L.isEmpty = M.isEmpty := by
 have hl := likes_len L M h
 cases L <;> cases M <;> simp_all
theorem al_pack {c d : Co} {L M : List Kt} (hc : ∀ a n k, c.kp a n k = d.kp a n k) (hL : likes L M) : AlW (packW c L) (packW d M) := by
 obtain ⟨a, n, k, rfl⟩ := eq_kp hc
 have e1 : relO L d.beat.now = relO M d.beat.now := by
  unfold relO
  rw [← likes_empty hL]
  split
  ·rfl
  ·rename_i h0; rw [(likes_pick hL _ h0).1]
 have e2 : relR L d.beat.now = relR M d.beat.now := by
  unfold relR
  rw [← likes_empty hL]
  split
  ·rfl
  ·rename_i h0; rw [(likes_pick hL _ h0).2]
 refine ⟨fun i => ?_, rfl⟩
 show Pw.num ⟨d.self.toNat, d.own, d.conf, d.mem, if gathB d = true then d.cut else d.count, d.pr, d.want, d.rdy, d.epoch, ownN d, _, _, relO L d.beat.now, relR L d.beat.now, _⟩ i = Pw.num ⟨d.self.toNat, d.own, d.conf, d.mem, if gathB d = true then d.cut else d.count, d.pr, d.want, d.rdy, d.epoch, ownN d, _, _, relO M d.beat.now, relR M d.beat.now, _⟩ i
 unfold Pw.num
 simp only [e1, e2]
def BadT (t : ByteArray) : Prop := t.size = 641 ∧ Eld.Crc.okL t.data.toList = false
def Txt (t t' : ByteArray) : Prop := ∃ x y : Pw, AlW x y ∧ (∀ j, x.num j < 4294967296) ∧ x.ok = true ∧ y.ok = true ∧ t = x.text ∧ t' = y.text
structure AlL (l l' : Le) : Prop where
 fr : l.fr = l'.fr
 u : l.u = l'.u
 b : l.b = l'.b
 good : l.b = false → Txt l.t l'.t
 bad : l.b = true → BadT l.t ∧ BadT l'.t
def Als (L M : List Le) : Prop := L.length = M.length ∧ ∀ (j : Nat) (l l' : Le), L[j]? = some l → M[j]? = some l' → AlL l l'
theorem Als.nil : Als [] [] := ⟨rfl, fun j l l' h => by simp at h⟩
theorem Als.app {L M L2 M2 : List Le} (h : Als L M) (k : Als L2 M2) : Als (L ++ L2) (M ++ M2) := by
 refine ⟨by rw [List.length_append, List.length_append, h.1, k.1], fun j l l' hl hl' => ?_⟩
 by_cases hj : j < L.length
 ·rw [List.getElem?_append_left hj] at hl
  rw [List.getElem?_append_left (by rw [← h.1]; exact hj)] at hl'
  exact h.2 j l l' hl hl'
 ·rw [List.getElem?_append_right (by omega)] at hl
  rw [List.getElem?_append_right (by rw [← h.1]; omega), ← h.1] at hl'
  exact k.2 _ l l' hl hl'
theorem Als.take {L M : List Le} (h : Als L M) (n : Nat) : Als (L.take n) (M.take n) := by
 refine ⟨by rw [List.length_take, List.length_take, h.1], fun j l l' hl hl' => ?_⟩
 rw [List.getElem?_take] at hl hl'
 split at hl
 ·rename_i hj
  rw [if_pos hj] at hl'
  exact h.2 j l l' hl hl'
 ·cases hl
theorem Als.drop {L M : List Le} (h : Als L M) (n : Nat) : Als (L.drop n) (M.drop n) := by
 refine ⟨by rw [List.length_drop, List.length_drop, h.1], fun j l l' hl hl' => ?_⟩
 rw [List.getElem?_drop] at hl hl'
 exact h.2 _ l l' hl hl'
theorem Als.set {L M : List Le} (h : Als L M) (p : Nat) {l l' : Le} (hl : AlL l l') : Als (L.set p l) (M.set p l') := by
 refine ⟨by rw [List.length_set, List.length_set, h.1], fun j x y hx hy => ?_⟩
 by_cases e : p = j
 ·subst e
  have h1 := (List.getElem?_eq_some_iff.1 hx).1
  rw [List.length_set] at h1
  rw [List.getElem?_set_self h1] at hx
  rw [List.getElem?_set_self (by rw [← h.1]; exact h1)] at hy
  cases hx
  cases hy
  exact hl
 ·rw [List.getElem?_set_ne e] at hx hy
  exact h.2 j x y hx hy
theorem Als.pick {L M : List Le} (h : Als L M) (f u ix : Int) : pickL f u ix L = pickL f u ix M := by
 have e : plc f u L = plc f u M := by
  unfold plc plcTo
  rw [h.1]
  refine List.filter_congr fun i _ => ?_
  cases h1 : L[i]? with
  | none =>
   have : M[i]? = none := by
    rw [List.getElem?_eq_none_iff] at h1 ⊢
    rw [← h.1]; exact h1
   rw [this]
  | some l =>
   have hi := (List.getElem?_eq_some_iff.1 h1).1
   obtain ⟨l', h2⟩ : ∃ l', M[i]? = some l' := ⟨_, List.getElem?_eq_getElem (by rw [← h.1]; exact hi)⟩
   rw [h2]
   have ha := h.2 i l l' h1 h2
   simp only [Option.any_some, fitB, ha.fr, ha.u]
 unfold pickL
 rw [e]
theorem Als.is {L M : List Le} (h : Als L M) (f u ix : Int) : isL f u ix L = isL f u ix M := by unfold isL; rw [h.pick]
theorem Als.left {L M : List Le} (h : Als L M) (f u ix : Int) : Als (leftL f u ix L) (leftL f u ix M) := by
 unfold leftL
 rw [← h.pick f u ix]
 split
 ·exact h
 ·exact (h.take _).app (h.drop _)
theorem Als.at {L M : List Le} (h : Als L M) {p : Nat} (hp : p < L.length) : AlL (L.getD p Le.zero) (M.getD p Le.zero) := by
 have hp' : p < M.length := by rw [← h.1]; exact hp
 rw [List.getD_eq_getElem?_getD, List.getD_eq_getElem?_getD, List.getElem?_eq_getElem hp, List.getElem?_eq_getElem hp']
 exact h.2 p _ _ (List.getElem?_eq_getElem hp) (List.getElem?_eq_getElem hp')
theorem Als.got {L M : List Le} (h : Als L M) {f u ix : Int} (hi : isL f u ix L = true) : AlL (gotL f u ix L) (gotL f u ix M) := by
 unfold isL at hi
 unfold gotL
 rw [← h.pick f u ix]
 cases hp : pickL f u ix L with
 | none => rw [hp] at hi; cases hi
 | some p => exact h.at (pickL_lt hp)
theorem Als.put {L M X Y : List Le} (h : Als L M) (k : Als X Y) : Als (putL L X) (putL M Y) := by
 unfold putL
 rw [← h.1]
 exact (h.take _).app (k.take _)
theorem at0_text (n : Nat) (f : Nat → UInt8) (k : Nat) (h : k < n) : at0 (textOf n f) k = f k := by
 unfold at0
 have e : (textOf n f).data = ((List.range n).map f).toArray := by
  apply Array.ext'
  rw [textOf_data]
 simp [e, h]
theorem trn_same {s t : ByteArray} (h : s.size = t.size) (a m : Nat) (hs : trnT s a m = s) : trnT t a m = t := by
 have key : ∀ j, j < s.size → a ≤ j → mskB m (j - a) = 0 := fun j hj ha => by
  have e1 : at0 (trnT s a m) j = trnF s a m j := at0_text _ _ _ hj
  rw [hs] at e1
  unfold trnF at e1
  rw [if_pos ha] at e1
  have e2 : at0 s j ^^^ at0 s j = at0 s j ^^^ (at0 s j ^^^ mskB m (j - a)) := by rw [← e1]
  rw [← UInt8.xor_assoc, UInt8.xor_self, UInt8.zero_xor] at e2
  exact e2.symm
 unfold trnT
 have e : textOf t.size (trnF t a m) = textOf t.size (at0 t) := textOf_ext fun j hj => by
  unfold trnF
  split
  ·rename_i ha
   rw [key j (by rw [h]; exact hj) ha, UInt8.xor_zero]
  ·rfl
 rw [e, textOf_at0]
theorem Als.trn {L M : List Le} (h : Als L M) (f u ix a : Int) {m : Nat} (hm : m < 4294967296) : Als (trnL f u ix a m L) (trnL f u ix a m M) := by
 unfold trnL
 rw [← h.pick f u ix]
 cases hp : pickL f u ix L with
 | none => exact h
 | some p =>
  have hl := h.at (pickL_lt hp)
  show Als (if a < 0 ∨ (L.getD p Le.zero).b = true then L else _) (if a < 0 ∨ (M.getD p Le.zero).b = true then M else _)
  rw [← hl.b]
  split
  ·exact h
  ·rename_i hn
   have hb : (L.getD p Le.zero).b = false := by
    cases e : (L.getD p Le.zero).b
    ·rfl
    ·exact absurd (.inr e) hn
   obtain ⟨x, y, hA, hx, ox, oy, e1, e2⟩ := hl.good hb
   generalize L.getD p Le.zero = l at hl hb e1
   generalize M.getD p Le.zero = l' at hl e2
   refine h.set p ?_
   have hsz : l.t.size = l'.t.size := by rw [e1, e2, text_size, text_size]
   by_cases hc : trnT l.t a.toNat m = l.t
   ·have hc' := trn_same hsz a.toNat m hc
    have b1 : (trnE l a.toNat m).b = false := by show (!decide _) = false; rw [decide_eq_true hc]; rfl
    have b2 : (trnE l' a.toNat m).b = false := by show (!decide _) = false; rw [decide_eq_true hc']; rfl
    refine ⟨hl.fr, hl.u, by rw [b1, b2], fun _ => ?_, fun q => by rw [b1] at q; cases q⟩
    show Txt (trnT l.t a.toNat m) (trnT l'.t a.toNat m)
    rw [hc, hc']
    exact ⟨x, y, hA, hx, ox, oy, e1, e2⟩
   ·have hc' : ¬ trnT l'.t a.toNat m = l'.t := fun q => hc (trn_same hsz.symm a.toNat m q)
    have b1 : (trnE l a.toNat m).b = true := by show (!decide _) = true; rw [decide_eq_false hc]; rfl
    have b2 : (trnE l' a.toNat m).b = true := by show (!decide _) = true; rw [decide_eq_false hc']; rfl
    refine ⟨hl.fr, hl.u, by rw [b1, b2], fun q => (by rw [b1] at q; cases q), fun _ => ?_⟩
    show BadT (trnT l.t a.toNat m) ∧ BadT (trnT l'.t a.toNat m)
    rw [e1] at hc ⊢
    rw [e2] at hc' ⊢
    exact ⟨text_turn x _ _ hm hc, text_turn y _ _ hm hc'⟩
theorem al_newL {t t' : ByteArray} (h : Txt t t') (i n : Nat) : Als (newL i t n) (newL i t' n) := by
 unfold newL
 refine ⟨by simp, fun j l l' hl hl' => ?_⟩
 rw [List.getElem?_map] at hl hl'
 cases e : ((List.range n).filter fun k => !decide (k = i))[j]? with
 | none => rw [e] at hl; cases hl
 | some k =>
  rw [e] at hl hl'
  cases hl
  cases hl'
  exact ⟨rfl, rfl, rfl, fun _ => h, fun q => by cases q⟩
end Go.Proofs.YthgfpdidilolgaaGreat
