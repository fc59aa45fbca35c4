/-
  What follows plainly of what a core does: who it is stays; counts fit; lists grow by little.
  No condition.
-/
import Derived.Test.YthgmecgknhphmaaCeW
namespace Go.Proofs.Ythgmecgknhphmaa
set_option maxRecDepth 10000
open Go.RowKit Go.Sort

theorem readyC_keeps (c : Co) : (readyC c).self = c.self ∧ (readyC c).own = c.own ∧ (readyC c).wait = c.wait ∧ (readyC c).count = c.count ∧ (readyC c).beat = c.beat ∧ (readyC c).epoch = c.epoch ∧ (readyC c).pr = c.pr ∧ (readyC c).want = c.want ∧ (readyC c).conf = c.conf ∧ (readyC c).mem = c.mem ∧ (readyC c).cut = c.cut ∧ (readyC c).peers = c.peers := by
  unfold readyC
  split <;> exact ⟨rfl, rfl, rfl, rfl, rfl, rfl, rfl, rfl, rfl, rfl, rfl, rfl⟩
theorem goOn_cases (s : Sg) : (insB (readyC s.c) = true ∧ goOnS s = ⟨instC (readyC s.c), [], s.t ++ [viewH (readyC s.c)]⟩) ∨ (insB (readyC s.c) = false ∧ goOnS s = ⟨readyC s.c, s.L, s.t⟩) := by
  unfold goOnS
  cases h : insB (readyC s.c) with
  | true => exact .inl ⟨rfl, rfl⟩
  | false => exact .inr ⟨rfl, rfl⟩
theorem goOn_self (s : Sg) : (goOnS s).c.self = s.c.self := by
  rcases goOn_cases s with ⟨_, e⟩ | ⟨_, e⟩ <;> rw [e] <;> exact (readyC_keeps s.c).1
theorem goOn_count (s : Sg) (h : ∀ i, s.c.count i < 4294967296) (i : Nat) : (goOnS s).c.count i < 4294967296 := by
  rcases goOn_cases s with ⟨_, e⟩ | ⟨_, e⟩ <;> rw [e]
  · show (0 : Nat) < 4294967296; omega
  · show (readyC s.c).count i < 4294967296
    rw [(readyC_keeps s.c).2.2.2.1]
    exact h i
theorem goOn_len (s : Sg) : (goOnS s).L.length ≤ s.L.length ∧ (goOnS s).t.length ≤ s.t.length + 1 := by
  rcases goOn_cases s with ⟨_, e⟩ | ⟨_, e⟩ <;> rw [e]
  · exact ⟨Nat.zero_le _, by simp⟩
  · exact ⟨Nat.le_refl _, Nat.le_succ _⟩
theorem proposeC_keeps (c : Co) (m : Nat → Nat) : (proposeC c m).self = c.self ∧ (proposeC c m).own = c.own ∧ (proposeC c m).wait = c.wait ∧ (proposeC c m).count = c.count ∧ (proposeC c m).beat = c.beat ∧ (proposeC c m).conf = c.conf ∧ (proposeC c m).mem = c.mem ∧ (proposeC c m).peers = c.peers := by
  unfold proposeC
  split <;> exact ⟨rfl, rfl, rfl, rfl, rfl, rfl, rfl, rfl⟩
theorem tick0_self (c : Co) : (tick0 c).self = c.self := (proposeC_keeps _ _).1
theorem tick0_count (c : Co) : (tick0 c).count = c.count := (proposeC_keeps _ _).2.2.2.1
theorem adopC_keeps (c : Co) (p : Pk) : (adopC c p).self = c.self ∧ (adopC c p).own = c.own ∧ (adopC c p).count = c.count ∧ (adopC c p).beat = c.beat ∧ (adopC c p).conf = c.conf ∧ (adopC c p).mem = c.mem ∧ (adopC c p).epoch = c.epoch ∧ (adopC c p).peers = c.peers := by
  unfold adopC
  split <;> exact ⟨rfl, rfl, rfl, rfl, rfl, rfl, rfl, rfl⟩
theorem recv0_self (c : Co) (p : Pk) : (recv0 c p).self = c.self := (adopC_keeps _ _).1
theorem recv0_count (c : Co) (p : Pk) : (recv0 c p).count = c.count := (adopC_keeps _ _).2.2.1
theorem adopC_kp (c : Co) (p : Pk) (a : Option Addr) (n k : Nat) : adopC (c.kp a n k) p = (adopC c p).kp a n k := by
  unfold adopC
  have e : adoptB (c.kp a n k).pr (c.kp a n k).self (c.kp a n k).own p = adoptB c.pr c.self c.own p := rfl
  rw [e]
  cases adoptB c.pr c.self c.own p <;> rfl
theorem offS_cases (s : Sg) (p : Pk) : ((mostB s.c && Idn.same p.conf s.c.conf) = true ∧ offS s p = offedS s p) ∨ ((mostB s.c && Idn.same p.conf s.c.conf) = false ∧ offS s p = s) := by
  unfold offS
  cases h : mostB s.c && Idn.same p.conf s.c.conf with
  | true => exact .inl ⟨rfl, rfl⟩
  | false => exact .inr ⟨rfl, rfl⟩
theorem offS_self (s : Sg) (p : Pk) : (offS s p).c.self = s.c.self := by
  rcases offS_cases s p with ⟨_, e⟩ | ⟨_, e⟩ <;> rw [e]
  rfl
theorem offS_len (s : Sg) (p : Pk) : (offS s p).L.length ≤ s.L.length + 3 ∧ (offS s p).t.length ≤ s.t.length + 3 := by
  rcases offS_cases s p with ⟨_, e⟩ | ⟨_, e⟩ <;> rw [e]
  · refine ⟨offO_len _ _ _ _, ?_⟩
    have h := offO_tlen s.c.mem (mostC s.c) p ⟨s.L, s.c.count, []⟩
    show (s.t ++ (offered s p).t.map takeH).length ≤ _
    rw [List.length_append, List.length_map]
    have : (offered s p).t.length ≤ 3 := by unfold offered; simpa using h
    omega
  · exact ⟨by omega, by omega⟩

theorem max3_run {P : Program} (ts : Array TypeId) (t : TypeId) (x y z : Nat) (w : World) : (Builtin.max_ ts t #[.int .u32 (x : Int), .int .u32 (y : Int), .int .u32 (z : Int)]).run P w = .ok (.int .u32 ((max x (max y z) : Nat) : Int)) w := by
  have e : (Builtin.max_ ts t #[.int .u32 (x : Int), .int .u32 (y : Int), .int .u32 (z : Int)]).run P w = .ok (.int .u32 (if (z : Int) > (if (y : Int) > (x : Int) then (y : Int) else (x : Int)) then (z : Int) else (if (y : Int) > (x : Int) then (y : Int) else (x : Int)))) w := by simp [Builtin.max_, Builtin.max2]
  rw [e]
  congr 2
  split <;> split <;> omega
theorem Blk.und {A B : Nat} {C : Array Value} {T : TypeId} {w w' : World} (h : Blk A C T w) (hb : Below B w w') (hA : A < B) : Blk A C T w' := (hb.block A hA).trans h

/- What a call hands back: a core, whether it did, what it tells. -/
def Did (s : Sg) (b : Bool) (B : Nat) (e : Ending) (w' : World) : Prop :=
  ∃ a k ta tk, e = .returned (.tuple #[.agg (coc (s.c.kp a s.L.length k)), .bool b, .slice ta s.t.length tk]) ∧ Li Kt.vals B a s.L w' ∧ Li Hp.vals B ta s.t w'

end Go.Proofs.Ythgmecgknhphmaa
