/-
  A core under way as one thing: its cells, what it keeps, what it tells; cores that differ in where their lists lie alone.
  No condition.
-/
import Derived.Test.YthgmecgknhphmaaCeU
namespace Go.Proofs.Ythgmecgknhphmaa
set_option maxRecDepth 10000
open Go.RowKit Go.Sort

/- A core under way lies at P; what it keeps lies in blocks from B on. -/
def Uv (T : TypeId) (B P : Nat) (s : Sg) (w : World) : Prop :=
  ∃ a k ta tk, Blk P (unc (s.c.kp a s.L.length k) (.slice ta s.t.length tk)) T w ∧ Li Kt.vals B a s.L w ∧ Lg Hp.vals 50 66 (P + 1) ta tk s.t w ∧ Off a s.L P ∧ ∀ g ∈ blkOf ta, Off a s.L g

theorem Uv.lt {T : TypeId} {B P : Nat} {s : Sg} {w : World} (h : Uv T B P s w) : P < w.heap.size := by
  obtain ⟨_, _, _, _, h, _⟩ := h
  exact h.lt
theorem Uv.below {T : TypeId} {B P : Nat} {s : Sg} {w w' : World} (h : Uv T B P s w) (hb : Below w.heap.size w w') : Uv T B P s w' := by
  obtain ⟨a, k, ta, tk, h1, h2, h3, h4, h5⟩ := h
  exact ⟨a, k, ta, tk, h1.below hb, h2.below hb, h3.below hb, h4, h5⟩

theorem kp_self (c : Co) (n : Nat) (h : c.kn = n) : c.kp c.ka n c.kc = c := by subst h; rfl
theorem kp_kp (c : Co) (a b : Option Addr) (n k m j : Nat) : (c.kp a n k).kp b m j = c.kp b m j := rfl

/- What is the same but for where lists lie. -/
def Sg.sim (s u : Sg) : Prop := (∀ a n k, s.c.kp a n k = u.c.kp a n k) ∧ s.L = u.L ∧ s.t = u.t
theorem Sg.sim_kp (c : Co) (L : List Kt) (t : List Hp) (a : Option Addr) (n k : Nat) : Sg.sim ⟨c.kp a n k, L, t⟩ ⟨c, L, t⟩ := ⟨fun _ _ _ => rfl, rfl, rfl⟩
theorem Uv.sim {T : TypeId} {B P : Nat} {s u : Sg} {w : World} (h : Uv T B P s w) (hs : Sg.sim s u) : Uv T B P u w := by
  obtain ⟨a, k, ta, tk, h1, h2, h3, h4, h5⟩ := h
  obtain ⟨e1, e2, e3⟩ := hs
  rw [e1, e2, e3] at h1
  rw [e2] at h2 h4 h5
  rw [e3] at h3
  exact ⟨a, k, ta, tk, h1, h2, h3, h4, h5⟩
/- To open it: the core with its lists where they lie. -/
theorem Uv.open {T : TypeId} {B P : Nat} {s : Sg} {w : World} (h : Uv T B P s w) : ∃ c ta tk, c.kn = s.L.length ∧ (∀ a n k, c.kp a n k = s.c.kp a n k) ∧ Blk P (unc c (.slice ta s.t.length tk)) T w ∧ Li Kt.vals B c.ka s.L w ∧ Lg Hp.vals 50 66 (P + 1) ta tk s.t w ∧ Off c.ka s.L P ∧ ∀ g ∈ blkOf ta, Off c.ka s.L g := by
  obtain ⟨a, k, ta, tk, h1, h2, h3, h4, h5⟩ := h
  exact ⟨s.c.kp a s.L.length k, ta, tk, rfl, fun _ _ _ => rfl, h1, h2, h3, h4, h5⟩
theorem eq_kp {c d : Co} (h : ∀ a n k, c.kp a n k = d.kp a n k) : ∃ a n k, c = d.kp a n k := ⟨c.ka, c.kn, c.kc, (kp_self c c.kn rfl).symm.trans (h _ _ _)⟩

theorem readyC_kp (c : Co) (a : Option Addr) (n k : Nat) : readyC (c.kp a n k) = (readyC c).kp a n k := by
  unfold readyC
  have e : rdyB (c.kp a n k) = rdyB c := rfl
  rw [e]
  cases rdyB c <;> rfl
theorem goOn_sim {c d : Co} (h : ∀ a n k, c.kp a n k = d.kp a n k) (L : List Kt) (t : List Hp) : Sg.sim (goOnS ⟨c, L, t⟩) (goOnS ⟨d, L, t⟩) := by
  obtain ⟨a, n, k, rfl⟩ := eq_kp h
  unfold goOnS
  show Sg.sim (if insB (readyC (d.kp a n k)) = true then instS ⟨readyC (d.kp a n k), L, t⟩ else ⟨readyC (d.kp a n k), L, t⟩) _
  rw [readyC_kp]
  have e : insB ((readyC d).kp a n k) = insB (readyC d) := rfl
  rw [e]
  show Sg.sim _ (if insB (readyC d) = true then instS ⟨readyC d, L, t⟩ else ⟨readyC d, L, t⟩)
  cases insB (readyC d)
  · exact ⟨fun _ _ _ => rfl, rfl, rfl⟩
  · exact ⟨fun _ _ _ => rfl, rfl, rfl⟩
theorem send_sim {c d : Co} (h : ∀ a n k, c.kp a n k = d.kp a n k) (L : List Kt) (t : List Hp) (f : Nat → En) : Sg.sim (sendS ⟨c, L, t⟩ f) (sendS ⟨d, L, t⟩ f) ∧ sendB c = sendB d := by
  obtain ⟨a, n, k, rfl⟩ := eq_kp h
  have e : sendB (d.kp a n k) = sendB d := rfl
  refine ⟨?_, e⟩
  unfold sendS
  show Sg.sim (if sendB (d.kp a n k) = true then sentS ⟨d.kp a n k, L, t⟩ f else ⟨d.kp a n k, L, t⟩) (if sendB d = true then sentS ⟨d, L, t⟩ f else ⟨d, L, t⟩)
  rw [e]
  cases sendB d
  · exact ⟨fun _ _ _ => rfl, rfl, rfl⟩
  · exact ⟨fun _ _ _ => rfl, rfl, rfl⟩
theorem off_sim {c d : Co} (h : ∀ a n k, c.kp a n k = d.kp a n k) (L : List Kt) (t : List Hp) (p : Pk) : Sg.sim (offS ⟨c, L, t⟩ p) (offS ⟨d, L, t⟩ p) := by
  obtain ⟨a, n, k, rfl⟩ := eq_kp h
  have e : (mostB (d.kp a n k) && Idn.same p.conf (d.kp a n k).conf) = (mostB d && Idn.same p.conf d.conf) := rfl
  unfold offS
  show Sg.sim (if (mostB (d.kp a n k) && Idn.same p.conf (d.kp a n k).conf) = true then offedS ⟨d.kp a n k, L, t⟩ p else ⟨d.kp a n k, L, t⟩) (if (mostB d && Idn.same p.conf d.conf) = true then offedS ⟨d, L, t⟩ p else ⟨d, L, t⟩)
  rw [e]
  cases mostB d && Idn.same p.conf d.conf
  · exact ⟨fun _ _ _ => rfl, rfl, rfl⟩
  · exact ⟨fun _ _ _ => rfl, rfl, rfl⟩
theorem propose_kp (c : Co) (m : Nat → Nat) (a : Option Addr) (n k : Nat) : proposeC (c.kp a n k) m = (proposeC c m).kp a n k := by
  unfold proposeC
  have e : (unsB (c.kp a n k) m && proB (c.kp a n k) m) = (unsB c m && proB c m) := rfl
  have e2 : propI (c.kp a n k) m = propI c m := rfl
  rw [e, e2]
  cases unsB c m && proB c m <;> rfl

end Go.Proofs.Ythgmecgknhphmaa
