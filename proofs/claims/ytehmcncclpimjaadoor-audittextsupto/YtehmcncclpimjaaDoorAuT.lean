/-
  The program's Read: what records a text is the text of.
  No line of the text is longer than 2147483647 bytes and one more.
-/
import Derived.Test.YtehmcncclpimjaaDoorAuS
namespace Go.Proofs.YtehmcncclpimjaaDoor
set_option maxRecDepth 10000
open Go.RowKit Go.Sort Go.Shelf
set_option linter.unusedVariables false
set_option linter.unusedSimpArgs false

theorem kp_put (S : List Nat) (b : Nat) (w : World) (o : Obj) (hb : b ∈ S) : Kp S w (w.putObj b o) := by
  have h := grownBy_putObj' w b o
  exact ⟨h.os, h.tape, h.output, h.size, fun k hk hn => h.block k hk (fun e => hn (by cases e; exact hb))⟩
def bodyQ (b D : Nat) (N : World → Prop) (Ix : Code → World → Prop) (W : World) : Exit → Act → World → Prop
  | .normal, _, W' => (∀ k, b ≤ k → k < D + 2 → W'.heap[k]? = W.heap[k]?) ∧ N W'
  | .ret, _, W' => (∀ k, b ≤ k → k < D + 2 → W'.heap[k]? = W.heap[k]?) ∧ Ix .ret W'
  | .exit id, _, W' => (∀ k, b ≤ k → k < D + 2 → W'.heap[k]? = W.heap[k]?) ∧ Ix (.exit id) W'
  | .goto t, _, W' => (∀ k, b ≤ k → k < D + 2 → W'.heap[k]? = W.heap[k]?) ∧ Ix (.goto t) W'
  | .panic _, _, _ => False
  | .outgrown, _, _ => False

/- A loop over the lines of a text, for what holds between two rounds and where the loop is left. -/
theorem range_lines {n : Nat} {g : Operand} {ps : Array Tmp} {assign body : Code} {Q : Exit → Act → World → Prop} {a : Act} {w0 : World} (hn1 : 1 ≤ n) (hn2 : 1 ≤ n - 1) (b D : Nat) (hD : w0.heap.size = D) (hbD : b + 3 ≤ D) (s : List UInt8) (hs : s.length ≤ 140737488355328)
    (hg : a.eval g = .func (.func 58) #[] #[.pointer (some ⟨b + 1, 0, none⟩), .pointer (some ⟨b, 0, none⟩), .pointer (some ⟨b + 2, 0, none⟩)]) (hps : ps.size = 1)
    (q0 : Boxed w0 b 9 (.string (strB s))) (q1 : Boxed w0 (b + 1) 9 (.string { data := #[10] })) (q2 : Boxed w0 (b + 2) 3 (.int .i64 1))
    (Mid : List UInt8 → World → Prop) (Ix : Code → World → Prop)
    (hM : ∀ R W W', Mid R W → Kp [D + 1] W W' → Mid R W') (hMb : ∀ R W v, Mid R W → Mid R (W.setCell ⟨b, 0, none⟩ v)) (hX : ∀ c W W', Ix c W → Kp [D + 1] W W' → Ix c W')
    (h0 : ∀ o1 o2, Mid s ((w0.alloc o1).alloc o2)) (a₁ : ByteArray → Act)
    (hassign : ∀ (x : ByteArray) (W : World) (K : Act → World → Prop), K (a₁ x) W → assign.wpIn (Fence.wide.inRound (D + 1)) (n - 1 - 1) Tryd.prog (Exit.then K (fun _ _ _ => False)) { tmps := (ps.zip #[.string x]).foldl (fun t (p, v) => t.setIfInBounds p v) a.tmps, defers := [] } W)
    (hb1 : ∀ g r W, (10 : UInt8) ∉ g → Mid (g ++ 10 :: r) W → body.wpIn (Fence.wide.inRound (D + 1)) (n - 1 - 1) Tryd.prog (bodyQ b D (Mid r) Ix W) (a₁ (strB (g ++ [10]))) W)
    (hb2 : ∀ g W, (10 : UInt8) ∉ g → Mid g W → body.wpIn (Fence.wide.inRound (D + 1)) (n - 1 - 1) Tryd.prog (bodyQ b D (fun _ => False) Ix W) (a₁ (strB g)) W)
    (hstop : ∀ c W, Ix c W → W.heap[D]? = some (.deferred (some [])) → c.wpIn Fence.wide n Tryd.prog Q { a with defers := { target := .collected D, args := #[] } :: a.defers } W) :
    (Code.rangeFunc g ps assign body).wpIn Fence.wide n Tryd.prog Q a w0 := by
  refine wpIn_rangeFunc ?_
  intro fn hfn
  obtain ⟨rec, hrec⟩ : ∃ rec : LoopState → Option Code → Loop, rec = fun st pe => { state := st, pending := pe, fn, tmps := a.tmps, params := ps, assign, body, defers := w0.heap.size } := ⟨_, rfl⟩
  obtain ⟨W1, hW1⟩ : ∃ W1, (w0.alloc (.deferred (some []))).alloc (.loop (rec .ready none)) = W1 := ⟨_, rfl⟩
  have hk1 : Below w0.heap.size w0 W1 := by rw [← hW1]; exact ((Below.refl _ w0).alloc (Nat.le_refl _) _).alloc (by simp) _
  have hL1 : W1.heap[D + 1]? = some (.loop (rec .ready none)) := by
    rw [← hW1, ← hD]
    have := World.alloc_heap_new (w0.alloc (.deferred (some []))) (.loop (rec .ready none))
    rwa [World.size_alloc] at this
  have hK1 : W1.heap[D]? = some (.deferred (some [])) := by
    rw [← hW1, ← hD]
    exact (Below.heap_alloc _ _ _ (by simp)).trans (World.alloc_heap_new w0 _)
  have hM1 : Mid s W1 := by rw [← hW1]; exact h0 _ _
  refine ⟨w0.heap.size + 1, [{ target := .collected w0.heap.size, args := #[] }], W1, { target := .fn (.func 58) #[.pointer (some ⟨b + 1, 0, none⟩), .pointer (some ⟨b, 0, none⟩), .pointer (some ⟨b + 2, 0, none⟩)], args := #[.func (.yield (w0.heap.size + 1)) #[] #[]] }, W1, 58,
    #[.func (.yield (w0.heap.size + 1)) #[] #[]] ++ #[.pointer (some ⟨b + 1, 0, none⟩), .pointer (some ⟨b, 0, none⟩), .pointer (some ⟨b + 2, 0, none⟩)], W1, ?_, ?_, fun _ _ => trivial, ?_, fun _ => hn1, ?_⟩
  · rw [← hW1, hrec]; exact run_enterLoop_outer _ _ _ _ _
  · simp only [resolve, hg]
    simp [go_sem]
  · simp [invoke, go_sem, enters_of Tryd.func58 (by kernel_rfl) rfl]
  · rw [hD]
    have hbk : ∀ k, k < D → W1.heap[k]? = w0.heap[k]? := fun k hk => hk1.block k (by omega)
    have hyl : ∀ (x : ByteArray) (W : World), W.heap[D + 1]? = some (.loop (rec .ready none)) → ∃ tmps, tmps = (ps.zip #[.string x]).foldl (fun t (p, v) => t.setIfInBounds p v) a.tmps ∧ (Instr.yield (D + 1) #[.string x]).run Tryd.prog W = .ok (.round (D + 1) fn tmps assign body) W := fun x W hl => by
      have hy := run_yield (P := Tryd.prog) (args := #[.string x]) hl (by rw [hrec]; exact hps.symm)
      rw [hrec] at hy
      exact ⟨_, rfl, hy⟩
    have fin : ∀ (jump : Option Code) (W2 W3 : World), W2.heap[D + 1]? = some (.loop { rec .ready none with state := .busy }) → W2.heap[D]? = some (.deferred (some [])) → (∀ k, b ≤ k → k < D + 2 → W3.heap[k]? = W2.heap[k]?) →
        (Instr.endRound (D + 1) jump).run Tryd.prog W3 = .ok (.bool jump.isNone) (W3.putObj (D + 1) (.loop (rec (if jump.isNone then .ready else .done) jump))) ∧
        (W3.putObj (D + 1) (.loop (rec (if jump.isNone then .ready else .done) jump))).heap[D + 1]? = some (.loop (rec (if jump.isNone then .ready else .done) jump)) ∧
        (W3.putObj (D + 1) (.loop (rec (if jump.isNone then .ready else .done) jump))).heap[D]? = some (.deferred (some [])) ∧ Kp [D + 1] W3 (W3.putObj (D + 1) (.loop (rec (if jump.isNone then .ready else .done) jump))) := fun jump W2 W3 hl2 hk2 hk => by
      have hl3 := (hk (D + 1) (by omega) (by omega)).trans hl2
      have hd3 := (hk D (by omega) (by omega)).trans hk2
      have := run_endRound (P := Tryd.prog) jump hl3
      rw [hrec] at this ⊢
      exact ⟨this, World.putObj_heap_same (Array.getElem?_eq_some_iff.1 hl3).1, (World.putObj_heap_other (by omega)).trans hd3, kp_put _ _ _ _ (by simp)⟩
    have beg : ∀ (W : World), W.heap[D + 1]? = some (.loop (rec .ready none)) → W.heap[D]? = some (.deferred (some [])) → ∃ W2, (Instr.beginRound (D + 1)).run Tryd.prog W = .ok () W2 ∧ W2.heap[D + 1]? = some (.loop { rec .ready none with state := .busy }) ∧ W2.heap[D]? = some (.deferred (some [])) ∧ Kp [D + 1] W W2 := fun W hl hk => by
      refine ⟨_, run_beginRound hl (by rw [hrec]), World.putObj_heap_same (Array.getElem?_eq_some_iff.1 hl).1, (World.putObj_heap_other (by omega)).trans hk, kp_put _ _ _ _ (by simp)⟩
    refine (split_iter (n - 1) (D + 1) b hn2
      (fun R W => Mid R W ∧ W.heap[D + 1]? = some (.loop (rec .ready none)) ∧ W.heap[D]? = some (.deferred (some [])))
      (fun W => ∃ c, Ix c W ∧ W.heap[D + 1]? = some (.loop (rec .done (some c))) ∧ W.heap[D]? = some (.deferred (some [])))
      (fun R W v h => ⟨hMb R W v h.1, (Below.heap_setCell _ _ _ _ (by simp; omega)).trans h.2.1, (Below.heap_setCell _ _ _ _ (by simp; omega)).trans h.2.2⟩)
      ?_ ?_ s hs W1 ((hbk b (by omega)).trans q0) ((hbk (b + 1) (by omega)).trans q1) ((hbk (b + 2) (by omega)).trans q2) ⟨hM1, hL1, hK1⟩).mono ?_
    · rintro g r W hn ⟨hm, hl, hk⟩
      obtain ⟨tmps, rfl, hy⟩ := hyl (strB (g ++ [10])) W hl
      refine ⟨fn, _, assign, body, hy, roundIn_of_wpIn trivial (hassign _ W _ ?_)⟩
      obtain ⟨W2, hbg, hl2, hk2, hkp⟩ := beg W hl hk
      refine ⟨W2, hbg, wpIn_mono (hb1 g r W2 hn (hM _ _ _ hm hkp)) ?_⟩
      rintro e a3 W3 hp
      cases e with
      | normal =>
        obtain ⟨hk3, hm3⟩ := hp
        obtain ⟨hr, hl4, hk4, hkp4⟩ := fin none W2 W3 hl2 hk2 hk3
        refine ⟨_, _, hr, .inl ⟨rfl, ⟨hM _ _ _ hm3 hkp4, hl4, hk4⟩, fun k h1 h2 => ?_⟩⟩
        have hlt : D + 1 < W.heap.size := (Array.getElem?_eq_some_iff.1 hl).1
        have hlt2 : D + 1 < W2.heap.size := (Array.getElem?_eq_some_iff.1 hl2).1
        have hlt3 : k < W3.heap.size := by
          have := hk3 k h1 (by omega)
          rcases Nat.lt_or_ge k W3.heap.size with h | h
          · exact h
          · rw [Array.getElem?_eq_none h, Array.getElem?_eq_getElem (by omega)] at this
            cases this
        exact ((hkp4.block k hlt3 (by simp; omega)).trans (hk3 k h1 (by omega))).trans (hkp.block k (by omega) (by simp; omega))
      | ret =>
        obtain ⟨hk3, hi3⟩ := hp
        obtain ⟨hr, hl4, hk4, hkp4⟩ := fin (some .ret) W2 W3 hl2 hk2 hk3
        exact ⟨_, _, hr, .inr ⟨rfl, .ret, hX _ _ _ hi3 hkp4, hl4, hk4⟩⟩
      | exit id =>
        obtain ⟨hk3, hi3⟩ := hp
        obtain ⟨hr, hl4, hk4, hkp4⟩ := fin (some (.exit id)) W2 W3 hl2 hk2 hk3
        exact ⟨_, _, hr, .inr ⟨rfl, .exit id, hX _ _ _ hi3 hkp4, hl4, hk4⟩⟩
      | goto t =>
        obtain ⟨hk3, hi3⟩ := hp
        obtain ⟨hr, hl4, hk4, hkp4⟩ := fin (some (.goto t)) W2 W3 hl2 hk2 hk3
        exact ⟨_, _, hr, .inr ⟨rfl, .goto t, hX _ _ _ hi3 hkp4, hl4, hk4⟩⟩
      | panic ch => exact hp.elim
      | outgrown => exact hp.elim
    · rintro g W hn ⟨hm, hl, hk⟩
      obtain ⟨tmps, rfl, hy⟩ := hyl (strB g) W hl
      refine ⟨fn, _, assign, body, hy, roundIn_of_wpIn trivial (hassign _ W _ ?_)⟩
      obtain ⟨W2, hbg, hl2, hk2, hkp⟩ := beg W hl hk
      refine ⟨W2, hbg, wpIn_mono (hb2 g W2 hn (hM _ _ _ hm hkp)) ?_⟩
      rintro e a3 W3 hp
      cases e with
      | normal => exact hp.2.elim
      | ret =>
        obtain ⟨hk3, hi3⟩ := hp
        obtain ⟨hr, hl4, hk4, hkp4⟩ := fin (some .ret) W2 W3 hl2 hk2 hk3
        exact ⟨_, _, hr, _, rfl, .ret, hX _ _ _ hi3 hkp4, hl4, hk4⟩
      | exit id =>
        obtain ⟨hk3, hi3⟩ := hp
        obtain ⟨hr, hl4, hk4, hkp4⟩ := fin (some (.exit id)) W2 W3 hl2 hk2 hk3
        exact ⟨_, _, hr, _, rfl, .exit id, hX _ _ _ hi3 hkp4, hl4, hk4⟩
      | goto t =>
        obtain ⟨hk3, hi3⟩ := hp
        obtain ⟨hr, hl4, hk4, hkp4⟩ := fin (some (.goto t)) W2 W3 hl2 hk2 hk3
        exact ⟨_, _, hr, _, rfl, .goto t, hX _ _ _ hi3 hkp4, hl4, hk4⟩
      | panic ch => exact hp.elim
      | outgrown => exact hp.elim
    · rintro e W2 ⟨⟨v, rfl⟩, c, hi, hl, hk⟩
      refine ⟨some c, _, by have := run_endLoop (P := Tryd.prog) hl (by rw [hrec]; simp); rw [hrec] at this; exact this, ?_⟩
      exact hstop c _ (hX _ _ _ hi (kp_put _ _ _ _ (by simp))) ((World.putObj_heap_other (by omega)).trans hk)

def RdMid (s : List UInt8) (z D : Nat) (w : World) (R : List UInt8) (W : World) : Prop := ∃ (L : List Rc) (ga : Option Addr) (gc k : Nat), L.length = k ∧ k + R.length ≤ s.length ∧ (∀ x ∈ L, x.fit) ∧ s = textL L ++ R ∧ Lg Rc.vals 4 27 (D + 2) ga gc L W ∧ Boxed W (z + 2) 22 (.slice ga k gc) ∧ Boxed W z 22 (.slice none 0 0) ∧ Boxed W (z + 1) 4 (.bool false) ∧ Below z w W ∧ D + 2 ≤ W.heap.size
def RdOut (s : List UInt8) (z D : Nat) (w : World) (c : Code) (W : World) : Prop := (c = .exit 0 ∧ RdMid s z D w [] W) ∨ (c = .ret ∧ IsTx s none ∧ Boxed W z 22 (.slice none 0 0) ∧ Boxed W (z + 1) 4 (.bool false) ∧ Below z w W)
theorem boxed_kp {W W' : World} {b : Nat} {t : TypeId} {v : Value} {S : List Nat} (h : Boxed W b t v) (k : Kp S W W') (hb : b ∉ S) : Boxed W' b t v := (k.block b h.lt hb).trans h
theorem RdMid.kp {s : List UInt8} {z D m : Nat} {w : World} {R : List UInt8} {W W' : World} (h : RdMid s z D w R W) (hk : Kp [m] W W') (h1 : z + 3 ≤ m) (h2 : m < D + 2) (hz : z ≤ W.heap.size) : RdMid s z D w R W' := by
  obtain ⟨L, ga, gc, k, a1, a2, a3, a4, a5, a6, a7, a8, a9, a10⟩ := h
  exact ⟨L, ga, gc, k, a1, a2, a3, a4, a5.kp hk (fun i hi => by simp at hi; omega), boxed_kp a6 hk (by simp; omega), boxed_kp a7 hk (by simp; omega), boxed_kp a8 hk (by simp; omega), a9.trans (hk.below (fun i hi => by simp at hi; omega) hz), Nat.le_trans a10 hk.size⟩
theorem RdOut.kp {s : List UInt8} {z D m : Nat} {w : World} {c : Code} {W W' : World} (h : RdOut s z D w c W) (hk : Kp [m] W W') (h1 : z + 3 ≤ m) (h2 : m < D + 2) (hz : w.heap.size = z) : RdOut s z D w c W' := by
  rcases h with ⟨rfl, h⟩ | ⟨rfl, a1, a2, a3, a4⟩
  · have hB : Below z w W := by obtain ⟨L, ga, gc, k, _, _, _, _, _, _, _, _, a9, _⟩ := h; exact a9
    exact .inl ⟨rfl, h.kp hk h1 h2 (by have := hB.size; omega)⟩
  · exact .inr ⟨rfl, a1, boxed_kp a2 hk (by simp; omega), boxed_kp a3 hk (by simp; omega), a4.trans (hk.below (fun i hi => by simp at hi; omega) (by have := a4.size; omega))⟩

theorem mid_no {s : List UInt8} {L : List Rc} {g r : List UInt8} (h : s = textL L ++ (g ++ 10 :: r)) (hn : (10 : UInt8) ∉ g) (hr : ∀ x : Rc, x.fit → lineL x ≠ g ++ [10]) : IsTx s none := by
  intro M hM _ he
  rw [h] at he
  obtain ⟨M', rfl, h7⟩ := textL_split he
  obtain ⟨y, M1, rfl, h8, _⟩ := text_first hn h7
  exact hr y (hM y (by simp)) h8
theorem mid_end {s : List UInt8} {L : List Rc} {g : List UInt8} (h : s = textL L ++ g) (hn : (10 : UInt8) ∉ g) (hg : g ≠ []) : IsTx s none := by
  intro M hM _ he
  rw [h] at he
  obtain ⟨M', rfl, h7⟩ := textL_split he
  exact hg (text_ends hn h7).1
theorem line_no {g : List UInt8} (hn : (10 : UInt8) ∉ g) (x : Rc) : lineL x ≠ g := fun h => hn (by rw [← h, lineL_body]; simp)
section
attribute [local go_sem] Oper.semAt_some

theorem rd_leave {R : Ending → World → Prop} {tmps : Array Value} {W : World} {D z : Nat} {v u : Value} (h2 : tmps.getD 2 undef = .pointer (some ⟨z, 0, none⟩)) (h3 : tmps.getD 3 undef = .pointer (some ⟨z + 1, 0, none⟩)) (b0 : Boxed W z 22 v) (b1 : Boxed W (z + 1) 4 u) (hzD : z + 1 < D) (hK : W.heap[D]? = some (.deferred (some [])))
    (hR : R (.returned (.tuple #[v, u])) (W.putObj D (.deferred none))) : bodyPostM Fence.wide 9 Tryd.prog Tryd.f18 R Exit.ret { tmps := tmps, defers := [{ target := .collected D, args := #[] }] } W := by
  refine ⟨by simp, .inl ⟨_, _, rfl, run_takeDeferred hK, ?_⟩⟩
  have c0 := (boxed_kp b0 (kp_put [D] D W (.deferred none) (by simp)) (by simp; omega)).cell
  have c1 := (boxed_kp b1 (kp_put [D] D W (.deferred none) (by simp)) (by simp; omega)).cell
  have h2' : tmps[2]?.getD undef = .pointer (some ⟨z, 0, none⟩) := by simpa using h2
  have h3' : tmps[3]?.getD undef = .pointer (some ⟨z + 1, 0, none⟩) := by simpa using h3
  refine ⟨.tuple #[v, u], ?_, hR⟩
  simp [results, Tryd.f18, go_sem, h2', h3', c0, c1]

set_option maxRecDepth 100000 in
set_option maxHeartbeats 4000000 in
theorem read_ok (s : ByteArray) (hs : (s.size + 1) * 40 ≤ 140737488355328) (hsg : Segs (bL s)) (w : World) (hE : Te w) : Calls Tryd.prog 18 #[.string s] w fun e w' => ReadIs (bL s) w.heap.size e w' ∧ Below w.heap.size w w' := by
  obtain ⟨iI, zI, hI, hz0, hsz, hby, hzs⟩ := infoRc
  have hl := bL_len s
  refine (callsIn_wide (n := 9)).1 ?_
  have h19 : (1 : Nat) ≤ 9 := by decide
  refine callsIn_of_wp_marks Tryd.func18 rfl trivial ?_ rfl
  simp only [Tryd.ntmps18, List.size_toArray, List.length_cons, List.length_nil, Nat.reduceAdd, Nat.reduceSub, Array.replicate_succ, Array.replicate_zero, List.push_toArray, List.append_toArray, List.nil_append, List.cons_append]
  have r0 := Boxed.new w 22 (.slice none 0 0)
  have r1 := Boxed.new (w.alloc (.cells #[.slice none 0 0] 22)) 4 (.bool false)
  have r2 := Boxed.new ((w.alloc (.cells #[.slice none 0 0] 22)).alloc (.cells #[.bool false] 4)) 22 (.slice none 0 0)
  have hB0 : Below w.heap.size w (((w.alloc (.cells #[.slice none 0 0] 22)).alloc (.cells #[.bool false] 4)).alloc (.cells #[.slice none 0 0] 22)) := (((Below.refl _ w).alloc (Nat.le_refl _) _).alloc (by simp) _).alloc (by simp; omega) _
  have hz3 : (((w.alloc (.cells #[.slice none 0 0] 22)).alloc (.cells #[.bool false] 4)).alloc (.cells #[.slice none 0 0] 22)).heap.size = w.heap.size + 3 := by simp
  replace r0 := (r0.alloc (.cells #[.bool false] 4)).alloc (.cells #[.slice none 0 0] 22)
  replace r1 := r1.alloc (.cells #[.slice none 0 0] 22)
  simp only [World.size_alloc] at r1 r2
  have pA := saseq_ok s (((w.alloc (.cells #[.slice none 0 0] 22)).alloc (.cells #[.bool false] 4)).alloc (.cells #[.slice none 0 0] 22))
  rw [hz3] at pA
  gi_wp2_with (refine ⟨trivial, ?_⟩; gi_at_call 32; refine (callsIn_wide.2 pA).mono ?_; rintro e W0 ⟨rfl, q0, q1, q2, hb, hz6⟩)
  obtain ⟨z, hz⟩ : ∃ z, w.heap.size = z := ⟨_, rfl⟩
  rw [hz] at q0 q1 q2 hb hz6 hz3
  rw [hz]
  have hB1 : Below z w W0 := by rw [← hz]; exact hB0.trans (hb.mono (by omega))
  have s0 : Boxed W0 z 22 (.slice none 0 0) := by rw [hz] at r0; exact (hb.block z (by omega)).trans r0
  have s1 : Boxed W0 (z + 1) 4 (.bool false) := by rw [hz] at r1; exact (hb.block (z + 1) (by omega)).trans r1
  have s2 : Boxed W0 (z + 2) 22 (.slice none 0 0) := by rw [hz] at r2; exact (hb.block (z + 2) (by omega)).trans r2
  clear pA r0 r1 r2 hB0 hb hz3
  refine range_lines h19 (by decide) (z + 3) (z + 3 + 3) hz6 (Nat.le_refl _) (bL s) (by omega) rfl rfl (by rw [strB_bL]; exact q0) q1 q2 (RdMid (bL s) z (z + 3 + 3) w) (RdOut (bL s) z (z + 3 + 3) w)
    (fun R W W' h hk => h.kp hk (by omega) (by omega) (by obtain ⟨L, ga, gc, k, _, _, _, _, _, _, _, _, a9, _⟩ := h; have := a9.size; omega)) (fun R W v h => h.kp (m := z + 3) (Kp.setCell (z + 3) 0 W v (by simp)) (by omega) (by omega) (by obtain ⟨L, ga, gc, k, _, _, _, _, _, _, _, _, a9, _⟩ := h; have := a9.size; omega)) (fun c W W' h hk => h.kp hk (by omega) (by omega) hz)
    (fun o1 o2 => ⟨[], none, 0, 0, rfl, by rw [hl]; omega, by simp, rfl, Lg.none _ _ _, (s2.alloc _).alloc _, (s0.alloc _).alloc _, (s1.alloc _).alloc _, (hB1.alloc (by omega) _).alloc (by simp; omega) _, by simp; omega⟩)
    (fun x => { tmps := #[.string s, undef, .pointer (some ⟨z, 0, none⟩), .pointer (some ⟨z + 1, 0, none⟩), .pointer (some ⟨z + 2, 0, none⟩), .string x, undef, undef, .string s, .func (.func 58) #[] #[.pointer (some ⟨z + 3 + 1, 0, none⟩), .pointer (some ⟨z + 3, 0, none⟩), .pointer (some ⟨z + 3 + 2, 0, none⟩)], .string x, undef, undef, undef, undef, undef, undef, undef, undef, undef, undef, undef, undef, undef, undef, undef, undef, undef], defers := [] }) ?assign ?body1 ?body2 ?stop
  case assign =>
    intro x W K hK
    gi_wp2
    exact hK
  case body1 =>
    rintro g r W hn ⟨L, ga, gc, k, a1, a2, a3, a4, a5, a6, a7, a8, a9, a10⟩
    have h1 : 1 ≤ 9 - 1 - 1 := by decide
    have hE1 := hE.below (B := z) a9 (by have := hE.tb.big; omega)
    have hgs := hsg _ _ _ a4 hn
    have pP := parse_ok (strB (g ++ [10])) (by rw [strB_size, List.length_append, List.length_cons, List.length_nil]; omega) W hE1
    have hne := same_lit (strB (g ++ [10])) [] false (by rw [bL_strB]; simp)
    rw [List.length_append, List.length_cons] at a2
    obtain ⟨C, hC⟩ : ∃ C, strB (g ++ [10]) = C := ⟨_, rfl⟩
    rw [hC] at hne pP ⊢
    have hCb : bL C = g ++ [10] := by rw [← hC, bL_strB]
    clear hC
    gi_wp2_with fail
    refine ⟨trivial, ?_⟩
    refine (CallsIn.inRound _ (callsIn_wide.2 pP)).mono ?_
    rintro e w1 ⟨⟨o, ho, hoc, rfl⟩, hb⟩
    rw [hCb] at ho
    have hA1 : Below (z + 3 + 3 + 2) W w1 := hb.mono a10
    have hb5 := hb.alloc hb.size (.cells (o.getD Rc.zero).arr 27)
    clear pP hb hoc
    have hw1s := hA1.size
    cases o with
    | none =>
      have HR : IsTx (bL s) none := mid_no a4 hn ho
      clear ho hn a4 hgs hCb a1 a2 a3 hne hb5
      obtain ⟨X, hX⟩ : ∃ X, ((none : Option Rc).getD Rc.zero) = X := ⟨_, rfl⟩
      rw [hX, show (none : Option Rc).isSome = false from rfl]
      clear hX
      have b3 := blk_new w1 X.arr 27
      have hA5 : Below (z + 3 + 3 + 2) W (w1.alloc (.cells X.arr 27)) := hA1.alloc (by omega) _
      have t0 : Boxed (w1.alloc (.cells X.arr 27)) z 22 (.slice none 0 0) := (hA5.block z (by omega)).trans a7
      have t1 : Boxed (w1.alloc (.cells X.arr 27)) (z + 1) 4 (.bool false) := (hA5.block (z + 1) (by omega)).trans a8
      have t2 : Boxed (w1.alloc (.cells X.arr 27)) (z + 2) 22 (.slice ga k gc) := (hA5.block (z + 2) (by omega)).trans a6
      have t3 := t0.cell
      have t4 := t1.cell
      have t5 := t0.frozen
      have t6 := t1.frozen
      clear b3
      gi_wp2_with (first | (refine in_op rfl (by intro c h; cases h) (fun K hK => ?_); refine wp_alloc_zero zeroRc rfl ?_; refine hK _ _ ?_; clear hK K) | (refine in_op rfl (by intro c h; cases h) (fun K hK => ?_); refine wp_store_row 27 _ _ rfl w1.heap.size X.arr rfl rfl 27 _ (heap_alloc_new w1 _) sizeRc rfl X.arr_one ?_; rw [World.setRow_alloc_new]; refine hK _ _ ?_; clear hK K))
      exact ⟨fun k h1 h2 => ((Below.heap_setCell _ _ _ k (by simp; omega)).trans (Below.heap_setCell _ _ _ k (by simp; omega))).trans (hA5.block k (by omega)), .inr ⟨rfl, HR, (t0.set _).other (by omega) _, (t1.other (by omega) _).set _, ((a9.trans (hA5.mono (by omega))).setCell (p := ⟨z, 0, none⟩) (Nat.le_refl _) _).setCell (p := ⟨z + 1, 0, none⟩) (by simp) _⟩⟩
    | some X =>
      have HS : Hid (bL s = textL (L ++ [X]) ++ r) := by show _ = _; rw [textL_snoc, ho.2, a4]; simp
      have HF : Hid (∀ x ∈ L ++ [X], x.fit) := fun x hx => by
        rcases List.mem_append.1 hx with hx | hx
        · exact a3 x hx
        · simp at hx; rw [hx]; exact ho.1
      clear ho hn a4 hgs hCb a3 hne
      rw [show (some X).getD Rc.zero = X from rfl, show (some X).isSome = true from rfl]
      rw [show (some X).getD Rc.zero = X from rfl] at hb5
      have b3 := blk_new w1 X.arr 27
      have hA5 : Below (z + 3 + 3 + 2) W (w1.alloc (.cells X.arr 27)) := hA1.alloc (by omega) _
      have t0 : Boxed (w1.alloc (.cells X.arr 27)) z 22 (.slice none 0 0) := (hA5.block z (by omega)).trans a7
      have t1 : Boxed (w1.alloc (.cells X.arr 27)) (z + 1) 4 (.bool false) := (hA5.block (z + 1) (by omega)).trans a8
      have t2 : Boxed (w1.alloc (.cells X.arr 27)) (z + 2) 22 (.slice ga k gc) := (hA5.block (z + 2) (by omega)).trans a6
      have t3 := t2.cell
      have hG5 := a5.below hb5
      have hk0 : Hid (L.length = k) := a1
      have hls : (bL s).length = s.size := bL_len s
      clear a1
      gi_wp2_with (first | (refine in_op rfl (by intro c h; cases h) (fun K hK => ?_); refine wp_alloc_zero zeroRc rfl ?_; refine hK _ _ ?_; clear hK K) | (refine in_op rfl (by intro c h; cases h) (fun K hK => ?_); refine wp_store_row 27 _ _ rfl w1.heap.size X.arr rfl rfl 27 _ (heap_alloc_new w1 _) sizeRc rfl X.arr_one ?_; rw [World.setRow_alloc_new]; refine hK _ _ ?_; clear hK K) | (refine in_op rfl (by intro c h; cases h) (fun K hK => ?_); refine wp_load_row 27 _ rfl w1.heap.size rfl 27 X.arr (0, 0) _ b3 Tryd.underlying27 rfl sizeRc ?_; refine hK _ _ ?_; clear hK K) | (refine in_op rfl (by intro c h; cases h) (fun K hK => ?_); refine wp_Rc _ rfl X rfl ?_; intro g2 W2 hl2 hb2; refine hK _ _ ?_; clear hK K; have hG2 := hG5.below hb2; have hs2 := hb2.size; have hA2 := hA5.trans (hb2.mono (by have := hA5.size; omega))) | (refine in_op rfl (by intro c h; cases h) (fun K hK => ?_); refine wp_append_any Rc.vals_length _ _ rfl Tryd.underlying22 hI hz0 hsz hby hzs hG2 (by have := hA2.size; omega) hk0.out rfl (M := [X]) (m := 1) rfl (hl2.src Rc.vals_length Rc.vals_one Tryd.underlying22 1) rfl rfl (by omega) (by simp only [maxLen]; omega) ?_; intro a3 c3 W3 hG3 hK3 _; refine hK _ _ ?_; clear hK K; have hA3 := hA2.trans (hK3.below (fun k hk => (hG2.in k hk).1) (by have := hA2.size; omega)); have t7 := (hA3.block (z + 2) (by omega)).trans a6; have t8 := Boxed.cell (W := W3) (B := z + 2) (t := 22) t7; have t9 := Boxed.frozen (W := W3) (B := z + 2) (t := 22) t7))
      have u0 : Boxed W3 z 22 (.slice none 0 0) := (hA3.block z (by omega)).trans a7
      have u1 : Boxed W3 (z + 1) 4 (.bool false) := (hA3.block (z + 1) (by omega)).trans a8
      have u2 : Boxed W3 (z + 2) 22 (.slice ga k gc) := t7
      have hs3 := hA3.size
      exact ⟨fun k h1 h2 => (Below.heap_setCell _ _ _ k (by simp; omega)).trans (hA3.block k (by omega)), L ++ [X], a3, c3, k + 1, by rw [List.length_append, hk0.out]; rfl, by omega, HF.out, HS.out, hG3.kp (Kp.setCell (S := [z + 2]) (z + 2) 0 W3 _ (by simp)) (fun i hi => by simp at hi; omega), u2.set _, u0.other (by omega) _, u1.other (by omega) _, (a9.trans (hA3.mono (by omega))).setCell (p := ⟨z + 2, 0, none⟩) (by simp) _, Nat.le_trans a10 (Nat.le_trans hs3 (by simp [World.setCell]))⟩
  case body2 =>
    rintro g W hn ⟨L, ga, gc, k, a1, a2, a3, a4, a5, a6, a7, a8, a9, a10⟩
    have h1 : 1 ≤ 9 - 1 - 1 := by decide
    by_cases hg0 : g = []
    · subst hg0
      have hne := same_lit (strB []) [] true (by rw [bL_strB]; simp)
      have HX : Hid (RdOut (bL s) z (z + 3 + 3) w (.exit 0) W) := .inl ⟨rfl, L, ga, gc, k, a1, a2, a3, a4, a5, a6, a7, a8, a9, a10⟩
      obtain ⟨C, hC⟩ : ∃ C, strB [] = C := ⟨_, rfl⟩
      rw [hC] at hne ⊢
      clear hC a1 a2 a3 a4 a5 a6 a7 a8 a9 a10
      gi_wp2_with fail
      exact ⟨fun _ _ _ => rfl, HX.out⟩
    · have hE1 := hE.below (B := z) a9 (by have := hE.tb.big; omega)
      have hgs := hsg _ g [] (by rw [List.append_nil]; exact a4) hn
      have pP := parse_ok (strB g) (by rw [strB_size]; omega) W hE1
      have hne := same_lit (strB g) [] false (by rw [bL_strB]; simpa using hg0)
      have HR : Hid (IsTx (bL s) none) := mid_end a4 hn hg0
      obtain ⟨C, hC⟩ : ∃ C, strB g = C := ⟨_, rfl⟩
      rw [hC] at hne pP ⊢
      have hCb : bL C = g := by rw [← hC, bL_strB]
      clear hC a1 a2 a3 a4 a5 a6 hg0
      gi_wp2_with fail
      refine ⟨trivial, ?_⟩
      refine (CallsIn.inRound _ (callsIn_wide.2 pP)).mono ?_
      rintro e w1 ⟨⟨o, ho, hoc, rfl⟩, hb⟩
      rw [hCb] at ho
      have hA1 : Below (z + 3 + 3 + 2) W w1 := hb.mono a10
      clear pP hb hoc
      have hw1s := hA1.size
      cases o with
      | some X => exact absurd ho.2 (line_no hn X)
      | none =>
        clear ho hn hgs hCb hne
        obtain ⟨X, hX⟩ : ∃ X, ((none : Option Rc).getD Rc.zero) = X := ⟨_, rfl⟩
        rw [hX, show (none : Option Rc).isSome = false from rfl]
        clear hX
        have hA5 : Below (z + 3 + 3 + 2) W (w1.alloc (.cells X.arr 27)) := hA1.alloc (by omega) _
        have t0 : Boxed (w1.alloc (.cells X.arr 27)) z 22 (.slice none 0 0) := (hA5.block z (by omega)).trans a7
        have t1 : Boxed (w1.alloc (.cells X.arr 27)) (z + 1) 4 (.bool false) := (hA5.block (z + 1) (by omega)).trans a8
        have t3 := t0.cell
        have t4 := t1.cell
        have t5 := t0.frozen
        have t6 := t1.frozen
        gi_wp2_with (first | (refine in_op rfl (by intro c h; cases h) (fun K hK => ?_); refine wp_alloc_zero zeroRc rfl ?_; refine hK _ _ ?_; clear hK K) | (refine in_op rfl (by intro c h; cases h) (fun K hK => ?_); refine wp_store_row 27 _ _ rfl w1.heap.size X.arr rfl rfl 27 _ (heap_alloc_new w1 _) sizeRc rfl X.arr_one ?_; rw [World.setRow_alloc_new]; refine hK _ _ ?_; clear hK K))
        exact ⟨fun k h1 h2 => ((Below.heap_setCell _ _ _ k (by simp; omega)).trans (Below.heap_setCell _ _ _ k (by simp; omega))).trans (hA5.block k (by omega)), .inr ⟨rfl, HR.out, (t0.set _).other (by omega) _, (t1.other (by omega) _).set _, ((a9.trans (hA5.mono (by omega))).setCell (p := ⟨z, 0, none⟩) (Nat.le_refl _) _).setCell (p := ⟨z + 1, 0, none⟩) (by simp) _⟩⟩
  case stop =>
    rintro c W (⟨rfl, L, ga, gc, k, a1, a2, a3, a4, a5, a6, a7, a8, a9, a10⟩ | ⟨rfl, HR, a7, a8, a9⟩) hK
    · rw [List.append_nil] at a4
      have pC := acheck_ok L ga gc a5.cap (by have := bL_len s; rw [List.length_nil] at a2; omega) W (a5.li.mono (Nat.zero_le _))
      rw [a1] at pC
      have HY : Hid (chkA L = true → IsTx (bL s) (some L)) := fun h => ⟨a3, h, a4.symm⟩
      have HN : Hid (chkA L = false → IsTx (bL s) none) := fun h M _ hM he => by
        rw [textL_inj (he.trans a4), h] at hM
        cases hM
      have t3 := a6.cell
      clear a2 a3 a4
      gi_wp2_with fail
      refine ⟨trivial, ?_⟩
      refine (callsIn_wide.2 pC).mono ?_
      rintro e w1 ⟨rfl, hb⟩
      have t0 : Boxed w1 z 22 (.slice none 0 0) := (hb.block z a7.lt).trans a7
      have t1 : Boxed w1 (z + 1) 4 (.bool false) := (hb.block (z + 1) a8.lt).trans a8
      have t2 : Boxed w1 (z + 2) 22 (.slice ga k gc) := (hb.block (z + 2) a6.lt).trans a6
      have hG1 := a5.below hb
      have hK1 := (hb.block (z + 3 + 3) (by omega)).trans hK
      have hB2 : Below z w w1 := a9.trans (hb.mono (by omega))
      have t4 := t0.cell
      have t5 := t1.cell
      have t6 := t0.frozen
      have t7 := t1.frozen
      have t8 := t2.cell
      cases hc : chkA L with
      | true =>
        have HR : Hid (IsTx (bL s) (some L)) := HY.out hc
        clear HY HN hc pC hb
        gi_wp2_with fail
        have hkS : Kp [z, z + 1, z + 3 + 3] w1 ((((w1.setCell ⟨z, 0, none⟩ (.slice ga k gc)).setCell ⟨z + 1, 0, none⟩ (.bool true)).putObj (z + 3 + 3) (.deferred none))) := (Kp.setCell z 0 w1 _ (by simp)).trans ((Kp.setCell (z + 1) 0 _ _ (by simp)).trans (kp_put _ (z + 3 + 3) _ _ (by simp)))
        have hBS := hB2.trans (hkS.below (B := z) (fun i hi => by simp at hi; omega) (by have := hB2.size; omega))
        refine rd_leave rfl rfl ((t0.set _).other (by omega) _) ((t1.other (by omega) _).set _) (by omega) ((Below.heap_setCell _ _ _ _ (by simp <;> omega)).trans ((Below.heap_setCell _ _ _ _ (by simp <;> omega)).trans hK1)) ?_
        rw [hz]
        exact ⟨read_some HR.out ((hG1.kp hkS (fun i hi => by simp at hi; omega)).mono (by omega)) a1, hBS⟩
      | false =>
        have HR : Hid (IsTx (bL s) none) := HN.out hc
        clear HY HN hc pC hb
        gi_wp2_with fail
        have hkS : Kp [z, z + 1, z + 3 + 3] w1 ((((w1.setCell ⟨z, 0, none⟩ (.slice none 0 0)).setCell ⟨z + 1, 0, none⟩ (.bool false)).putObj (z + 3 + 3) (.deferred none))) := (Kp.setCell z 0 w1 _ (by simp)).trans ((Kp.setCell (z + 1) 0 _ _ (by simp)).trans (kp_put _ (z + 3 + 3) _ _ (by simp)))
        have hBS := hB2.trans (hkS.below (B := z) (fun i hi => by simp at hi; omega) (by have := hB2.size; omega))
        refine rd_leave rfl rfl ((t0.set _).other (by omega) _) ((t1.other (by omega) _).set _) (by omega) ((Below.heap_setCell _ _ _ _ (by simp <;> omega)).trans ((Below.heap_setCell _ _ _ _ (by simp <;> omega)).trans hK1)) ?_
        rw [hz]
        exact ⟨read_none HR.out _ _, hBS⟩
    · gi_wp2_with fail
      have hkS := kp_put [z + 3 + 3] (z + 3 + 3) W (.deferred none) (by simp)
      refine rd_leave rfl rfl a7 a8 (by omega) hK ?_
      rw [hz]
      exact ⟨read_none HR _ _, a9.trans (hkS.below (B := z) (fun i hi => by simp at hi; omega) (by have := a9.size; omega))⟩
end

end Go.Proofs.YtehmcncclpimjaaDoor
