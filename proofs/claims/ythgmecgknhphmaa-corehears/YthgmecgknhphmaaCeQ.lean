/-
  What a core holds stays such as its types hold, whatever comes; lists grow by little.
  No condition.
-/
import Derived.Test.YthgmecgknhphmaaCeN
namespace Go.Proofs.Ythgmecgknhphmaa
set_option maxRecDepth 10000
open Go.RowKit Go.Sort

theorem put8_lt {f : Nat → Nat} {i v : Nat} (h : ∀ j, f j < 4294967296) (hv : v < 4294967296) (j : Nat) : put8 f i v j < 4294967296 := by
  unfold put8
  split
  · exact hv
  · exact h j
theorem max_lt {a b c : Nat} (h : a < c) (k : b < c) : max a b < c := by omega
theorem tickB_ok {b : Bt} (h : b.ok) : (tickB b).ok := by
  obtain ⟨h1, h2, h3⟩ := h
  refine ⟨?_, h2, h3⟩
  show (if b.now < 4294967295 then b.now + 1 else b.now) < 4294967296
  split <;> omega
theorem hearB_ok {b : Bt} (h : b.ok) (i : Int) (n : Nat) (hn : n < 4294967296) : (hearB b i n).ok := by
  obtain ⟨h1, h2, h3⟩ := h
  unfold hearB
  split
  · exact ⟨h1, put8_lt h2 h1, put8_lt h3 hn⟩
  · exact ⟨h1, h2, h3⟩
theorem rchB_lt {b : Bt} (h : b.ok) (i : Int) (n wt : Nat) (hn : n < 4294967296) (j : Nat) : rchB b i n wt j < 4294967296 := by
  unfold rchB
  split
  · exact hn
  · split
    · exact h.inc j
    · omega
theorem propI_fit {c : Co} (h : c.fit) (s : Nat) (hs : s < 8) (hc : c.self = (s : Int)) (m : Nat → Nat) : (propI c m).fit := by
  unfold propI
  split
  · rename_i hp
    have he : c.epoch ≠ 4294967295 := by
      unfold proB at hp
      rw [Bool.and_eq_true] at hp
      have := hp.2
      simpa using this
    have := h.epoch
    refine ⟨?_, ?_, h.own⟩
    · show c.epoch + 1 < _; omega
    · show c.self.toNat < _; rw [hc]; simp; omega
  · exact ⟨by decide, by decide, by decide⟩
theorem told_fit (p : Pk) : (told p).fit := ⟨p.lt 1, ⟨p.lt 2, p.lt 3, p.lt 4⟩, ⟨p.lt 21, p.lt 22, p.lt 23⟩, fun _ => p.lt _⟩
theorem togP_fit {x y : Pe} (hx : x.fit) (hy : y.fit) : (togP x y).fit := by
  unfold togP
  split
  · exact ⟨hx.1, hy.2.1, hx.2.2.1, hy.2.2.2⟩
  · split
    · exact ⟨hx.1, hx.2.1, hx.2.2.1, fun i => max_lt (hx.2.2.2 i) (hy.2.2.2 i)⟩
    · exact ⟨hx.1, hx.2.1, hx.2.2.1, hx.2.2.2⟩
theorem updP_fit {x y : Pe} (hx : x.fit) (hy : y.fit) : (updP x y).fit := by
  unfold updP
  split
  · exact hx
  · split
    · exact hy
    · exact togP_fit hx hy

theorem fit_wBeat {c : Co} (h : c.fit) {b : Bt} (hb : b.ok) : (c.wBeat b).fit := ⟨h.own, hb, h.conf, h.mem, h.count, h.pr, h.want, h.cut, h.peers, h.epoch⟩
theorem fit_wEpoch {c : Co} (h : c.fit) {e : Nat} (he : e < 4294967296) : (c.wEpoch e).fit := ⟨h.own, h.beat, h.conf, h.mem, h.count, h.pr, h.want, h.cut, h.peers, he⟩
theorem fit_prom {c : Co} (h : c.fit) {x : Idn} {m : Nat → Nat} (hx : x.fit) (hm : ∀ i, m i < 4294967296) : (promC c x m).fit := ⟨h.own, h.beat, h.conf, h.mem, h.count, hx, hm, h.count, h.peers, h.epoch⟩
theorem fit_wCount {c : Co} (h : c.fit) {m : Nat → Nat} (hm : ∀ i, m i < 4294967296) : (c.wCount m).fit := ⟨h.own, h.beat, h.conf, h.mem, hm, h.pr, h.want, h.cut, h.peers, h.epoch⟩
theorem fit_wPeer {c : Co} (h : c.fit) (i : Nat) {x : Pe} (hx : x.fit) : (c.wPeer i x).fit := ⟨h.own, h.beat, h.conf, h.mem, h.count, h.pr, h.want, h.cut, fun j => by
  show (putP c.peers i x j).fit
  unfold putP
  split
  · exact hx
  · exact h.peers j, h.epoch⟩
theorem fit_kp {c : Co} (h : c.fit) (a : Option Addr) (n k : Nat) : (c.kp a n k).fit := ⟨h.own, h.beat, h.conf, h.mem, h.count, h.pr, h.want, h.cut, h.peers, h.epoch⟩
theorem fit_ready {c : Co} (h : c.fit) : (readyC c).fit := by
  unfold readyC
  split
  · exact ⟨h.own, h.beat, h.conf, h.mem, h.count, h.pr, h.want, h.cut, h.peers, h.epoch⟩
  · exact h
theorem fit_goOn {s : Sg} (h : s.c.fit) : (goOnS s).c.fit := by
  have hr := fit_ready h
  rcases goOn_cases s with ⟨_, e⟩ | ⟨_, e⟩ <;> rw [e]
  · exact ⟨hr.own, hr.beat, hr.pr, hr.want, fun _ => by show (0 : Nat) < _; omega, hr.pr, hr.want, fun _ => by show (0 : Nat) < _; omega, hr.peers, hr.epoch⟩
  · exact hr
theorem fit_send {s : Sg} (h : s.c.fit) (f : Nat → En) : (sendS s f).c.fit := by
  unfold sendS
  split
  · exact fit_wCount h (fun i => takeC_lt _ _ h.count i)
  · exact h
theorem fit_off {s : Sg} (h : s.c.fit) (p : Pk) : (offS s p).c.fit := by
  rcases offS_cases s p with ⟨_, e⟩ | ⟨_, e⟩ <;> rw [e]
  · refine fit_wCount h (fun i => ?_)
    exact ((Fol.first s.L s.c.count s.c.mem (mostC s.c) h.count).offer p).lt i
  · exact h
theorem fit_tick {c : Co} (h : c.fit) (s : Nat) (hs : s < 8) (hc : c.self = (s : Int)) (L : List Kt) (f : Nat → En) : (tickS c L f).c.fit := by
  refine fit_send (fit_goOn ?_) f
  show (tick0 c).fit
  have h1 : (c.wBeat (tickB c.beat)).fit := fit_wBeat h (tickB_ok h.beat)
  unfold tick0 proposeC
  split
  · have hp := propI_fit h1 s hs hc (reachC (c.wBeat (tickB c.beat)))
    exact fit_prom (fit_wEpoch h1 hp.1) hp (fun i => rchB_lt h1.beat _ _ _ h1.own i)
  · exact h1
theorem fit_hear {c : Co} (h : c.fit) (p : Pk) : (hearC c p).fit :=
  fit_wEpoch (fit_wPeer (fit_wBeat h (hearB_ok h.beat _ _ (p.lt 1))) _ (updP_fit (h.peers _) (told_fit p))) (max_lt h.epoch (max_lt (p.lt 33) (p.lt 21)))
theorem fit_recv {c : Co} (h : c.fit) (L : List Kt) (p : Pk) : (recvS c L p).c.fit := by
  unfold recvS
  split
  · refine fit_goOn (fit_off ?_ p)
    show (recv0 c p).fit
    unfold recv0 adopC
    split
    · exact fit_prom (fit_hear h p) ⟨p.lt 21, p.lt 22, p.lt 23⟩ (fun _ => p.lt _)
    · exact fit_hear h p
  · exact h
theorem fit_start {s : Int} {n : Nat} (hn : n < 4294967296) (wt : Int) (h : startB s n wt = true) : (startC s n wt).fit := by
  unfold startC
  rw [if_pos h]
  have h' := of_decide_eq_true h
  have z0 : (0 : Nat) < 4294967296 := by omega
  have hz : ∀ i, noMb i < 4294967296 := fun _ => z0
  have hf : (Idn.mk 0 s.toNat n).fit := ⟨z0, by show s.toNat < _; omega, hn⟩
  have hi : Idn.zero.fit := ⟨z0, z0, z0⟩
  have hp : ∀ i, (noPe i).fit := fun _ => ⟨z0, hi, hi, hz⟩
  exact ⟨hn, ⟨z0, hz, hz⟩, hf, fun i => put8_lt hz hn i, hz, hf, fun i => put8_lt hz hn i, hz, hp, z0⟩

theorem sendS_len (s : Sg) (f : Nat → En) : (sendS s f).L.length ≤ s.L.length + 1 ∧ (sendS s f).t.length ≤ s.t.length + 1 := by
  unfold sendS
  split
  · exact ⟨takeL_len _ _, by show (s.t ++ [_]).length ≤ _; simp⟩
  · exact ⟨by omega, by omega⟩
theorem tickS_len (c : Co) (L : List Kt) (f : Nat → En) : (tickS c L f).L.length ≤ L.length + 1 ∧ (tickS c L f).t.length ≤ 2 := by
  have h1 := sendS_len (tick1 c L) f
  have h2 : (tick1 c L).L.length ≤ L.length ∧ (tick1 c L).t.length ≤ 0 + 1 := goOn_len ⟨tick0 c, L, []⟩
  show (sendS (tick1 c L) f).L.length ≤ _ ∧ _
  exact ⟨by omega, by show (sendS (tick1 c L) f).t.length ≤ _; omega⟩
theorem recvS_len (c : Co) (L : List Kt) (p : Pk) : (recvS c L p).L.length ≤ L.length + 3 ∧ (recvS c L p).t.length ≤ 4 := by
  unfold recvS
  split
  · have h1 := goOn_len (offS ⟨recv0 c p, L, []⟩ p)
    have h2 : (offS ⟨recv0 c p, L, []⟩ p).L.length ≤ L.length + 3 ∧ (offS ⟨recv0 c p, L, []⟩ p).t.length ≤ 0 + 3 := offS_len _ p
    unfold recvY
    omega
  · exact ⟨by show L.length ≤ _; omega, by show (0 : Nat) ≤ 4; omega⟩
theorem sendS_self (s : Sg) (f : Nat → En) : (sendS s f).c.self = s.c.self ∧ (sendS s f).c.own = s.c.own := by
  unfold sendS
  split <;> exact ⟨rfl, rfl⟩
theorem goOn_own (s : Sg) : (goOnS s).c.own = s.c.own := by
  rcases goOn_cases s with ⟨_, e⟩ | ⟨_, e⟩ <;> rw [e] <;> exact (readyC_keeps s.c).2.1
theorem tickS_self (c : Co) (L : List Kt) (f : Nat → En) : (tickS c L f).c.self = c.self ∧ (tickS c L f).c.own = c.own := by
  have h := sendS_self (tick1 c L) f
  refine ⟨h.1.trans ?_, h.2.trans ?_⟩
  · exact (goOn_self ⟨tick0 c, L, []⟩).trans (tick0_self c)
  · exact (goOn_own ⟨tick0 c, L, []⟩).trans ((proposeC_keeps _ _).2.1)
theorem offS_own (s : Sg) (p : Pk) : (offS s p).c.own = s.c.own := by
  rcases offS_cases s p with ⟨_, e⟩ | ⟨_, e⟩ <;> rw [e]
  rfl
theorem recvS_self (c : Co) (L : List Kt) (p : Pk) : (recvS c L p).c.self = c.self ∧ (recvS c L p).c.own = c.own := by
  unfold recvS
  split
  · refine ⟨?_, ?_⟩
    · exact (goOn_self _).trans ((offS_self _ p).trans (recv0_self c p))
    · exact (goOn_own _).trans ((offS_own _ p).trans ((adopC_keeps _ _).2.1))
  · exact ⟨rfl, rfl⟩

end Go.Proofs.Ythgmecgknhphmaa
