/-
  From its start on: what a core promises and installs rises; it is among its members; the frames that it tells count up.
  No condition.
-/
import Derived.Test.YthgmecgknhphmaaCeQ
namespace Go.Proofs.Ythgmecgknhphmaa
set_option maxRecDepth 10000
open Go.RowKit Go.Sort
set_option linter.unusedVariables false

structure Iv (s n : Nat) (c : Co) : Prop where
  self : c.self = (s : Int)
  own : c.own = n
  le : ¬ c.pr.lt c.conf
  want : c.want s = n
  mem : c.mem s = n
  ep : c.pr.e ≤ c.epoch

/- One happening more: what is counted. -/
def nxH (h : Hp) (m : Nat → Nat) : Nat → Nat := if h.view = true then noMb else put8 m h.k.fr.toNat (m h.k.fr.toNat + 1)
def okH (c d : Co) (s n : Nat) (h : Hp) (m : Nat → Nat) : Prop :=
  (h.view = true ∧ c.conf.lt h.conf ∧ h.mem s = n ∧ h.conf = d.conf ∧ h.mem = d.mem) ∨ (h.view = false ∧ ∃ i : Nat, i < 8 ∧ h.k.fr = (i : Int) ∧ h.k.rd = m i + 1)
def Walks (c d : Co) (s n : Nat) : (Nat → Nat) → List Hp → (Nat → Nat) → Prop
  | m, [], m' => m = m'
  | m, h :: t, m' => okH c d s n h m ∧ Walks c d s n (nxH h m) t m'
theorem Walks.append {c d : Co} {s n : Nat} : ∀ (t : List Hp) {u : List Hp} {m m' m'' : Nat → Nat}, Walks c d s n m t m' → Walks c d s n m' u m'' → Walks c d s n m (t ++ u) m''
  | [], _, _, _, _, h, k => by cases h; exact k
  | x :: t, _, _, _, _, h, k => ⟨h.1, Walks.append t h.2 k⟩
theorem put8_at (f : Nat → Nat) (i v : Nat) : put8 f i v i = v := if_pos rfl
theorem walks_take {c d : Co} {s n : Nat} {m : Nat → Nat} {x : Kt} {i : Nat} (hi : i < 8) (hx : x.fr = (i : Int)) (hr : x.rd = m i + 1) : Walks c d s n m [takeH x] (takeC m x) := by
  refine ⟨.inr ⟨rfl, i, hi, hx, hr⟩, ?_⟩
  show nxH (takeH x) m = takeC m x
  unfold nxH takeC
  show put8 m x.fr.toNat (m x.fr.toNat + 1) = put8 m x.fr.toNat x.rd
  rw [hx, Int.toNat_natCast, hr]
theorem walks_step {c d : Co} {s n : Nat} {m0 m o : Nat → Nat} {q : Os} (h : Walks c d s n m0 (q.t.map takeH) q.c) (x : Kt) : Walks c d s n m0 ((stepO m o q x).t.map takeH) (stepO m o q x).c := by
  cases hb : offB q.c m o x with
  | false => rw [step_no m o q x hb]; exact h
  | true =>
    rw [step_yes m o q x hb]
    unfold offB at hb
    simp only [Bool.and_eq_true] at hb
    obtain ⟨i, e, h8, _, hr⟩ := (takesB_iff q.c m x).1 hb.2.2
    show Walks c d s n m0 ((q.t ++ [x]).map takeH) (takeC q.c x)
    rw [List.map_append]
    exact Walks.append _ h (walks_take h8 e hr)
theorem walks_off {c d : Co} {s n : Nat} (m o m0 : Nat → Nat) (p : Pk) (L : List Kt) : Walks c d s n m0 ((offO m o p ⟨L, m0, []⟩).t.map takeH) (offO m o p ⟨L, m0, []⟩).c := by
  have h0 : Walks c d s n m0 ((Os.mk L m0 []).t.map takeH) (Os.mk L m0 []).c := rfl
  have h1 : Walks c d s n m0 ((firstO m o p ⟨L, m0, []⟩).t.map takeH) (firstO m o p ⟨L, m0, []⟩).c := by
    unfold firstO
    split
    · exact walks_step h0 _
    · exact h0
  exact walks_step (walks_step h1 _) _

theorem le_of_lt {a b : Idn} (h : a.lt b) : ¬ b.lt a := Idn.lt_asymm h
theorem lt_of_ne {a b : Idn} (h : ¬ a.lt b) (hn : a ≠ b) : b.lt a := by
  rcases cmpId_cases a b with ⟨h', _⟩ | ⟨h', _⟩ | ⟨h', _⟩
  · exact absurd h' h
  · exact h'
  · exact absurd h' hn
theorem iv_ready {s n : Nat} {c : Co} (h : Iv s n c) : Iv s n (readyC c) := by
  obtain ⟨k1, k2, _, _, _, k6, k7, k8, k9, k10, _⟩ := readyC_keeps c
  exact ⟨k1.trans h.self, k2.trans h.own, by rw [k7, k9]; exact h.le, by rw [k8]; exact h.want, by rw [k10]; exact h.mem, by rw [k7, k6]; exact h.ep⟩
/- What is told as it goes on. -/
theorem iv_goOn {s n : Nat} {sg : Sg} (h : Iv s n sg.c) : Iv s n (goOnS sg).c ∧ ¬ (goOnS sg).c.conf.lt sg.c.conf ∧ (goOnS sg).c.pr = sg.c.pr ∧
    ∃ u, (goOnS sg).t = sg.t ++ u ∧ ∀ c d : Co, ¬ sg.c.conf.lt c.conf → d.conf = (goOnS sg).c.conf → d.mem = (goOnS sg).c.mem → Walks c d s n sg.c.count u (goOnS sg).c.count := by
  have hr := iv_ready h
  obtain ⟨k1, k2, _, k4, _, k6, k7, k8, k9, k10, _⟩ := readyC_keeps sg.c
  rcases goOn_cases sg with ⟨hi, e⟩ | ⟨_, e⟩ <;> rw [e]
  · have hg : gathB (readyC sg.c) = true := by
      unfold insB at hi
      rw [Bool.and_eq_true, Bool.and_eq_true] at hi
      exact hi.1.1
    have hlt : (readyC sg.c).conf.lt (readyC sg.c).pr := by
      refine lt_of_ne hr.le fun e => ?_
      unfold gathB at hg
      rw [e, Idn.same_self] at hg
      simp at hg
    refine ⟨⟨hr.self, hr.own, Idn.lt_irrefl _, hr.want, hr.want, hr.ep⟩, ?_, k7, [viewH (readyC sg.c)], rfl, ?_⟩
    · show ¬ (readyC sg.c).pr.lt sg.c.conf
      rw [← k9]
      exact hr.le
    · intro c d h1 h2 h3
      refine ⟨.inl ⟨rfl, ?_, hr.want, h2.symm, h3.symm⟩, rfl⟩
      show c.conf.lt (readyC sg.c).pr
      rw [k9] at hlt
      by_cases e : c.conf = sg.c.conf
      · rw [e]; exact hlt
      · exact Idn.lt_trans (lt_of_ne h1 (fun x => e x.symm)) hlt
  · refine ⟨hr, ?_, k7, [], by simp, ?_⟩
    · show ¬ (readyC sg.c).conf.lt sg.c.conf
      rw [k9]
      exact Idn.lt_irrefl _
    · intro c d _ _ _
      show sg.c.count = (readyC sg.c).count
      rw [k4]

structure Stp (s n : Nat) (c : Co) (S : Sg) : Prop where
  iv : Iv s n S.c
  pr : ¬ S.c.pr.lt c.pr
  conf : ¬ S.c.conf.lt c.conf
  wk : Walks c S.c s n c.count S.t S.c.count

theorem rch_self (c : Co) : reachC c c.self.toNat = c.own ∨ c.self < 0 := by
  by_cases h : c.self < 0
  · exact .inr h
  · left
    show (if ((c.self.toNat : Nat) : Int) = c.self then c.own else _) = c.own
    rw [if_pos (by omega)]
theorem iv_tick {s n : Nat} (hs : s < 8) {c : Co} (h : Iv s n c) (hf : c.fit) (L : List Kt) (f : Nat → En) : Stp s n c (tickS c L f) := by
  -- the promise
  have h0 : Iv s n (tick0 c) ∧ ¬ (tick0 c).pr.lt c.pr ∧ (tick0 c).conf = c.conf ∧ (tick0 c).count = c.count := by
    obtain ⟨k1, k2, k3, k4, k5, k6, k7, _⟩ := proposeC_keeps (c.wBeat (tickB c.beat)) (reachC (c.wBeat (tickB c.beat)))
    have hb : Iv s n (c.wBeat (tickB c.beat)) := ⟨h.self, h.own, h.le, h.want, h.mem, h.ep⟩
    refine ⟨?_, ?_, k6, k4⟩
    · unfold tick0 proposeC
      split
      · rename_i hu
        rw [Bool.and_eq_true] at hu
        have hp := hu.2
        obtain ⟨X, hX⟩ : ∃ X, propI (c.wBeat (tickB c.beat)) (reachC (c.wBeat (tickB c.beat))) = X := ⟨_, rfl⟩
        have hXe : X = ⟨c.epoch + 1, c.self.toNat, c.own⟩ := by rw [← hX, propI, if_pos hp]; rfl
        rw [hX]
        refine ⟨h.self, h.own, ?_, ?_, h.mem, Nat.le_refl _⟩
        · show ¬ X.lt c.conf
          rw [hXe]
          intro hl
          have h1 : ¬ (Idn.mk (c.epoch + 1) c.self.toNat c.own).lt c.pr := by
            have := h.ep
            intro hz
            unfold Idn.lt at hz
            rcases hz with h1 | ⟨h1, _⟩
            · have h2 : c.epoch + 1 < c.pr.e := h1
              omega
            · have h2 : c.epoch + 1 = c.pr.e := h1
              omega
          exact h1 (by
            by_cases e : c.conf = c.pr
            · rw [← e]; exact hl
            · exact Idn.lt_trans hl (lt_of_ne h.le (fun x => e x.symm)))
        · show reachC (c.wBeat (tickB c.beat)) s = n
          rcases rch_self (c.wBeat (tickB c.beat)) with e | e
          · have e1 : (c.wBeat (tickB c.beat)).self.toNat = s := by show c.self.toNat = s; rw [h.self]; simp
            rw [e1] at e
            exact e.trans h.own
          · have : c.self < 0 := e
            rw [h.self] at this
            omega
      · exact hb
    · unfold tick0 proposeC
      split
      · rename_i hu
        rw [Bool.and_eq_true] at hu
        have hp := hu.2
        show ¬ (propI (c.wBeat (tickB c.beat)) (reachC (c.wBeat (tickB c.beat)))).lt c.pr
        rw [propI, if_pos hp]
        have := h.ep
        intro hz
        unfold Idn.lt at hz
        rcases hz with h1 | ⟨h1, _⟩
        · have h2 : c.epoch + 1 < c.pr.e := h1
          omega
        · have h2 : c.epoch + 1 = c.pr.e := h1
          omega
      · exact Idn.lt_irrefl _
  obtain ⟨i0, p0, c0, n0⟩ := h0
  obtain ⟨i1, c1, p1, u, e1, w1⟩ := iv_goOn (sg := ⟨tick0 c, L, []⟩) i0
  have e1 : (tick1 c L).t = [] ++ u := e1
  have i1 : Iv s n (tick1 c L).c := i1
  have c1 : ¬ (tick1 c L).c.conf.lt (tick0 c).conf := c1
  have p1 : (tick1 c L).c.pr = (tick0 c).pr := p1
  rw [c0] at c1
  have hw : ∀ d : Co, d.conf = (tick1 c L).c.conf → d.mem = (tick1 c L).c.mem → Walks c d s n c.count (tick1 c L).t (tick1 c L).c.count := fun d h1 h2 => by
    have := w1 c d (by show ¬ (tick0 c).conf.lt c.conf; rw [c0]; exact Idn.lt_irrefl _) h1 h2
    rw [e1, List.nil_append]
    have hn : (Sg.mk (tick0 c) L []).c.count = c.count := n0
    rw [hn] at this
    exact this
  unfold tickS sendS
  split
  · rename_i hd
    have hself := i1.self
    have ho : ownN (tick1 c L).c = (tick1 c L).c.count s := by rw [ownN, hself, Int.toNat_natCast]
    refine ⟨⟨i1.self, i1.own, i1.le, i1.want, i1.mem, i1.ep⟩, ?_, c1, ?_⟩
    · show ¬ (tick1 c L).c.pr.lt c.pr
      rw [p1]; exact p0
    · refine Walks.append _ (hw _ rfl rfl) ?_
      refine walks_take hs (by show (tick1 c L).c.self = _; exact hself) ?_
      show (ownN (tick1 c L).c + 1) % 4294967296 = (tick1 c L).c.count s + 1
      have hne : ownN (tick1 c L).c ≠ 4294967295 := by
        unfold sendB at hd
        rw [Bool.and_eq_true] at hd
        simpa using hd.2
      have hlt : (tick1 c L).c.count s < 4294967296 := goOn_count ⟨tick0 c, L, []⟩ (by show ∀ i, (tick0 c).count i < _; rw [n0]; exact hf.count) s
      rw [ho] at hne ⊢
      exact Nat.mod_eq_of_lt (by omega)
  · exact ⟨i1, by rw [p1]; exact p0, c1, hw _ rfl rfl⟩
theorem iv_recv {s n : Nat} (hs : s < 8) {c : Co} (h : Iv s n c) (L : List Kt) (p : Pk) : Stp s n c (recvS c L p) := by
  unfold recvS
  split
  · have hh : Iv s n (hearC c p) := ⟨h.self, h.own, h.le, h.want, h.mem, by show c.pr.e ≤ max c.epoch _; have := h.ep; omega⟩
    have h0 : Iv s n (recv0 c p) ∧ ¬ (recv0 c p).pr.lt c.pr ∧ (recv0 c p).conf = c.conf ∧ (recv0 c p).count = c.count := by
      obtain ⟨k1, k2, k3, k4, k5, k6, k7, _⟩ := adopC_keeps (hearC c p) p
      refine ⟨?_, ?_, k5, k3⟩
      · unfold recv0 adopC
        split
        · rename_i ha
          unfold adoptB at ha
          rw [Bool.and_eq_true] at ha
          have hgt : c.pr.lt p.pr := cmpId_gt.1 (of_decide_eq_true ha.1)
          have hm : p.want s = n := by
            have h2 := ha.2
            rw [show (hearC c p).self = (s : Int) from h.self, show (hearC c p).own = n from h.own] at h2
            unfold hasM at h2
            have h3 := (of_decide_eq_true h2).2.2.2
            rw [Int.toNat_natCast] at h3
            exact h3
          refine ⟨h.self, h.own, ?_, hm, h.mem, ?_⟩
          · show ¬ p.pr.lt c.conf
            intro hl
            exact h.le (Idn.lt_trans hgt hl)
          · show p.pr.e ≤ max c.epoch (max (p.n 33) (p.n 21))
            show p.n 21 ≤ _
            omega
        · exact hh
      · unfold recv0 adopC
        split
        · rename_i ha
          unfold adoptB at ha
          rw [Bool.and_eq_true] at ha
          exact Idn.lt_asymm (cmpId_gt.1 (of_decide_eq_true ha.1))
        · exact Idn.lt_irrefl _
    obtain ⟨i0, p0, c0, n0⟩ := h0
    have h1 : Iv s n (offS ⟨recv0 c p, L, []⟩ p).c ∧ (offS ⟨recv0 c p, L, []⟩ p).c.pr = (recv0 c p).pr ∧ (offS ⟨recv0 c p, L, []⟩ p).c.conf = c.conf ∧ ∀ d : Co, Walks c d s n c.count (offS ⟨recv0 c p, L, []⟩ p).t (offS ⟨recv0 c p, L, []⟩ p).c.count := by
      rcases offS_cases ⟨recv0 c p, L, []⟩ p with ⟨_, e⟩ | ⟨_, e⟩ <;> rw [e]
      · refine ⟨⟨i0.self, i0.own, i0.le, i0.want, i0.mem, i0.ep⟩, rfl, c0, fun d => ?_⟩
        have := walks_off (c := c) (d := d) (s := s) (n := n) (recv0 c p).mem (mostC (recv0 c p)) (recv0 c p).count p L
        rw [n0] at this
        have e2 : offered ⟨recv0 c p, L, []⟩ p = offO (recv0 c p).mem (mostC (recv0 c p)) p ⟨L, c.count, []⟩ := by rw [← n0]; rfl
        show Walks c d s n c.count ([] ++ (offered ⟨recv0 c p, L, []⟩ p).t.map takeH) (offered ⟨recv0 c p, L, []⟩ p).c
        rw [e2, List.nil_append]
        exact this
      · exact ⟨i0, rfl, c0, fun d => n0.symm⟩
    obtain ⟨i1, p1, c1, w1⟩ := h1
    obtain ⟨i2, c2, p2, u, e2, w2⟩ := iv_goOn i1
    refine ⟨i2, ?_, ?_, ?_⟩
    · show ¬ (goOnS (offS ⟨recv0 c p, L, []⟩ p)).c.pr.lt c.pr
      rw [p2, p1]; exact p0
    · show ¬ (goOnS (offS ⟨recv0 c p, L, []⟩ p)).c.conf.lt c.conf
      rw [c1] at c2; exact c2
    · show Walks c (goOnS (offS ⟨recv0 c p, L, []⟩ p)).c s n c.count (goOnS (offS ⟨recv0 c p, L, []⟩ p)).t (goOnS (offS ⟨recv0 c p, L, []⟩ p)).c.count
      rw [e2]
      exact Walks.append _ (w1 _) (w2 c _ (by rw [c1]; exact Idn.lt_irrefl _) rfl rfl)
  · exact ⟨h, Idn.lt_irrefl _, Idn.lt_irrefl _, rfl⟩
theorem iv_start (s n : Nat) (wt : Int) (h : startB (s : Int) n wt = true) : Iv s n (startC (s : Int) n wt) ∧ ∀ i, (startC (s : Int) n wt).count i = 0 := by
  unfold startC
  rw [if_pos h, Int.toNat_natCast]
  exact ⟨⟨rfl, rfl, Idn.lt_irrefl _, put8_at _ _ _, put8_at _ _ _, Nat.le_refl _⟩, fun _ => rfl⟩

end Go.Proofs.Ythgmecgknhphmaa
