/-
  What one proposes is above what one promised, and then it stands; what was promised is not taken again: what follows of the plain answers.
  No condition.
-/
import Derived.Test.YtbmhfnallpcmpaaGaN
namespace Go.Proofs.Ytbmhfnallpcmpaa
set_option maxRecDepth 10000
open Go.RowKit Go.Sort

/- What one proposes: it is above, and then it stands. -/
def dC (c : Co) (m : Nat → Nat) : Co := ⟨c.self, c.wait, c.own, c.beat, c.conf, c.mem, c.count, c.ka, c.kn, c.kc, propI c m, m, c.cut, c.rdy, c.peers, (propI c m).e⟩
theorem pro_no (c : Co) (m : Nat → Nat) (h : proB c m = false) : propI c m = Idn.zero := by rw [propI, h]; rfl
theorem pro_yes (c : Co) (m : Nat → Nat) (h : proB c m = true) : propI c m = ⟨c.epoch + 1, c.self.toNat, c.own⟩ ∧ c.epoch ≠ 4294967295 := by
  refine ⟨by rw [propI, h]; rfl, fun e => ?_⟩
  rw [proB, e] at h
  simp at h
theorem cmp_above (a b : Idn) (h : b.e < a.e) : cmpId a b = 1 := by
  rcases cmpId_cases a b with ⟨k, _⟩ | ⟨_, k⟩ | ⟨k, _⟩
  · unfold Idn.lt at k; omega
  · exact k
  · rw [k] at h; omega
theorem cmp_below (a b : Idn) (h : a.e < b.e) : cmpId a b = -1 := by
  rcases cmpId_cases a b with ⟨_, k⟩ | ⟨k, _⟩ | ⟨k, _⟩
  · exact k
  · unfold Idn.lt at k; omega
  · rw [k] at h; omega
theorem pro_again (c : Co) (m : Nat → Nat) (s : Nat) (hc : c.self = (s : Int)) (h : proB c m = true) (hp : ∀ i, i < 8 → (c.peers i).pr.e ≤ c.epoch) : proB (dC c m) m = false := by
  obtain ⟨e, _⟩ := pro_yes c m h
  have hst : standB (dC c m) m = true := by
    have hm : mineB (dC c m) m = true := by
      unfold mineB dC
      rw [e, hc]
      simp [mbSame_self]
    rw [standB, hm, Bool.true_and, Bool.not_eq_true', List.any_eq_false]
    intro d hd
    obtain ⟨d8, _, _⟩ := (mem_oth _ _ _).1 hd
    have hl := hp d d8
    have : cmpId ((dC c m).peers d).pr (dC c m).pr = -1 := cmp_below _ _ (by show (c.peers d).pr.e < (propI c m).e; rw [e]; show _ < c.epoch + 1; omega)
    unfold aboveB
    rw [this]
    simp
  rw [proB, hst]
  simp
theorem adopt_self (a : Idn) (i : Int) (n : Nat) (p : Pk) (h : a = p.pr) : adoptB a i n p = false := by
  rw [adoptB, h, cmpId_self]
  rfl
theorem adopt_above (a : Idn) (i : Int) (n : Nat) (p : Pk) (h : adoptB a i n p = true) : cmpId p.pr a = 1 := by
  have h0 : 0 < cmpId p.pr a := by
    rw [adoptB, Bool.and_eq_true] at h
    exact of_decide_eq_true h.1
  rcases cmpId_cases p.pr a with ⟨_, k⟩ | ⟨_, k⟩ | ⟨_, k⟩
  · omega
  · exact k
  · omega

end Go.Proofs.Ytbmhfnallpcmpaa
