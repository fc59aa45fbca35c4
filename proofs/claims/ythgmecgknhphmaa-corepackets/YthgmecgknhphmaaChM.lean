/-
  What a core sends may be sent, if all that it saw may be.
  No condition.
-/
import Derived.Test.YthgmecgknhphmaaChA
import Derived.Test.YthgmecgknhphmaaCeSt
import Derived.Test.YthgmecgknhphmaaCeV
namespace Go.Proofs.Ythgmecgknhphmaa
set_option maxRecDepth 10000
open Go.RowKit Go.Sort
set_option linter.unusedVariables false

def Kt.ok (k : Kt) : Prop := frMay k.f = true ∧ ∃ i : Nat, i < 8 ∧ k.fr = (i : Int)
structure Ok7 (c : Co) (L : List Kt) : Prop where
  conf : c.conf.c < 8
  pr : c.pr.c < 8
  ks : ∀ k ∈ L, k.ok
def Ev.may (e : Ev) : Bool := e.p.w.may && frMay e.f
theorem Ok7.kp {c : Co} {L : List Kt} (h : Ok7 c L) (a : Option Addr) (n k : Nat) : Ok7 (c.kp a n k) L := ⟨h.conf, h.pr, h.ks⟩
theorem ok_goOn {s : Sg} (h : Ok7 s.c s.L) : Ok7 (goOnS s).c (goOnS s).L := by
  obtain ⟨_, _, _, _, _, _, k7, _, k9, _⟩ := readyC_keeps s.c
  rcases goOn_cases s with ⟨_, e⟩ | ⟨_, e⟩ <;> rw [e]
  · refine ⟨?_, ?_, fun k hk => by cases hk⟩
    · show (readyC s.c).pr.c < 8; rw [k7]; exact h.pr
    · show (readyC s.c).pr.c < 8; rw [k7]; exact h.pr
  · refine ⟨?_, ?_, h.ks⟩
    · show (readyC s.c).conf.c < 8; rw [k9]; exact h.conf
    · show (readyC s.c).pr.c < 8; rw [k7]; exact h.pr
theorem ok_takeL {L : List Kt} (h : ∀ k ∈ L, k.ok) {x : Kt} (hx : x.ok) : ∀ k ∈ takeL L x, k.ok := by
  intro k hk
  rcases List.mem_append.1 hk with hk | hk
  · exact h k (List.mem_filter.1 hk).1
  · simp at hk
    rw [hk]
    exact hx
theorem ok_send {s : Sg} (h : Ok7 s.c s.L) (f : Nat → En) (hf : frMay f = true) (n : Nat) (hn : n < 8) (hs : s.c.self = (n : Int)) : Ok7 (sendS s f).c (sendS s f).L := by
  unfold sendS
  split
  · exact ⟨h.conf, h.pr, ok_takeL h.ks ⟨hf, n, hn, hs⟩⟩
  · exact h
theorem ok_step {m o : Nat → Nat} {s : Os} (h : ∀ k ∈ s.L, k.ok) (x : Kt) (hx : frMay x.f = true) : ∀ k ∈ (stepO m o s x).L, k.ok := by
  cases hb : offB s.c m o x with
  | false => rw [step_no m o s x hb]; exact h
  | true =>
    rw [step_yes m o s x hb]
    unfold offB at hb
    rw [Bool.and_eq_true] at hb
    have h8 := of_decide_eq_true hb.1
    exact ok_takeL h ⟨hx, x.fr.toNat, by omega, by omega⟩
theorem may_parts {p : Pk} (h : p.w.may = true) : p.n 22 < 8 ∧ frMay p.f0 = true ∧ frMay p.f1 = true ∧ frMay p.f2 = true := by
  unfold Pw.may at h
  simp only [Bool.and_eq_true, decide_eq_true_eq] at h
  obtain ⟨⟨_, _, _, h1⟩, h2, h3, h4⟩ := h
  exact ⟨h1, h2, h3, h4⟩
theorem ok_offO {m o : Nat → Nat} {s : Os} (h : ∀ k ∈ s.L, k.ok) {p : Pk} (hp : p.w.may = true) : ∀ k ∈ (offO m o p s).L, k.ok := by
  obtain ⟨_, h0, h1, h2⟩ := may_parts hp
  have hf : ∀ k ∈ (firstO m o p s).L, k.ok := by
    unfold firstO
    split
    · exact ok_step h (kO p) h1
    · exact h
  exact ok_step (ok_step hf (kN p) h0) (kR p) h2
theorem ok_off {s : Sg} (h : Ok7 s.c s.L) {p : Pk} (hp : p.w.may = true) : Ok7 (offS s p).c (offS s p).L := by
  rcases offS_cases s p with ⟨_, e⟩ | ⟨_, e⟩ <;> rw [e]
  · exact ⟨h.conf, h.pr, ok_offO (s := ⟨s.L, s.c.count, []⟩) h.ks hp⟩
  · exact h
theorem ok_event {c : Co} {L : List Kt} (h : Ok7 c L) (n : Nat) (hn : n < 8) (hs : c.self = (n : Int)) (e : Ev) (he : e.may = true) : Ok7 (stepS c L e).c (stepS c L e).L := by
  unfold Ev.may at he
  rw [Bool.and_eq_true] at he
  unfold stepS
  split
  · have h0 : Ok7 (tick0 c) L := by
      obtain ⟨_, _, _, _, _, k6, k7, _⟩ := proposeC_keeps (c.wBeat (tickB c.beat)) (reachC (c.wBeat (tickB c.beat)))
      refine ⟨?_, ?_, h.ks⟩
      · unfold tick0 proposeC
        split <;> exact h.conf
      · unfold tick0 proposeC
        split
        · show (propI (c.wBeat (tickB c.beat)) (reachC (c.wBeat (tickB c.beat)))).c < 8
          unfold propI
          split
          · show c.self.toNat < 8
            rw [hs]; simp; exact hn
          · show 0 < 8
            omega
        · exact h.pr
    have h1 : Ok7 (tick1 c L).c (tick1 c L).L := ok_goOn (s := ⟨tick0 c, L, []⟩) h0
    exact ok_send h1 e.f he.2 n hn ((goOn_self ⟨tick0 c, L, []⟩).trans ((tick0_self c).trans hs))
  · unfold recvS
    split
    · have h0 : Ok7 (recv0 c e.p) L := by
        refine ⟨?_, ?_, h.ks⟩
        · unfold recv0 adopC
          split <;> exact h.conf
        · unfold recv0 adopC
          split
          · exact (may_parts he.1).1
          · exact h.pr
      exact ok_goOn (ok_off (s := ⟨recv0 c e.p, L, []⟩) h0 he.1)
    · exact h
theorem ok_got {L : List Kt} (h : ∀ k ∈ L, k.ok) (i : Int) (r : Nat) : frMay (gotF (getK i r L)) = true := by
  cases hg : getK i r L with
  | none => exact frMay_no
  | some k => exact (h k (List.mem_of_find?_eq_some hg)).1
theorem ok_pick {L : List Kt} (h : ∀ k ∈ L, k.ok) (v : Nat) (hL : ¬ L.isEmpty = true) : (pickK L v).ok := by
  have hl : 0 < L.length := by
    cases L with
    | nil => simp at hL
    | cons => simp
  have hv : v % L.length < L.length := Nat.mod_lt _ hl
  unfold pickK
  rw [List.getElem?_eq_getElem hv]
  exact h _ (List.getElem_mem hv)
theorem ok_pack {c : Co} {L : List Kt} (h : Ok7 c L) (n : Nat) (hn : n < 8) (hs : c.self = (n : Int)) : (packW c L).may = true := by
  have hro : relO L c.beat.now < 8 := by
    unfold relO
    split
    · omega
    · rename_i hL
      obtain ⟨_, i, hi, e⟩ := ok_pick h.ks c.beat.now hL
      rw [e]
      omega
  have h2 : frMay (relF L c.beat.now) = true := by
    unfold relF
    split
    · exact frMay_no
    · rename_i hL
      exact (ok_pick h.ks c.beat.now hL).1
  have h1 : frMay (if 0 < ownN c then gotF (getK c.self (ownN c - 1) L) else noFr) = true := by
    split
    · exact ok_got h.ks _ _
    · exact frMay_no
  have hfr : c.self.toNat < 8 := by rw [hs]; simp; exact hn
  unfold Pw.may
  simp only [Bool.and_eq_true, decide_eq_true_eq]
  exact ⟨⟨hfr, hro, h.conf, h.pr⟩, ok_got h.ks _ _, h1, h2⟩
theorem stp_step {s n : Nat} (hs : s < 8) {c : Co} (h : Iv s n c) (hf : c.fit) (L : List Kt) (e : Ev) : Stp s n c (stepS c L e) := by
  unfold stepS
  split
  · exact iv_tick hs h hf L e.f
  · exact iv_recv hs h L e.p

end Go.Proofs.Ythgmecgknhphmaa
