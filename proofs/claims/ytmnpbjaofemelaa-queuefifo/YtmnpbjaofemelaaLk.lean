/-
  More of lists: one element of a row of one's own written; its end cut off and cleared; append to a list of one's own, with what is kept beside it.
  No condition.
-/
import Derived.Test.YtmnpbjaofemelaaLg
namespace Go.Proofs.Ytmnpbjaofemelaa
set_option maxRecDepth 10000
open Go.RowKit Go.Sort

section
variable {α : Type} {f : α → List Value} {k : Nat}

theorem Ow.len {T : TypeId} {g cap : Nat} {L : List α} {w : World} (h : Ow f k T g cap L w) : L.length ≤ cap ∧ cap ≤ maxLen := by obtain ⟨_, _, h1, h2, _⟩ := h; exact ⟨h1, h2⟩
/- The cells behind a part was written. -/
theorem take_put (C : Array Value) (a o : Nat) (vs : List Value) (ha : o + vs.length ≤ a) (hC : a ≤ C.size) : (putAt C o vs).toList.take a = (putAt (C.toList.take a).toArray o vs).toList := by
  have hl : (C.toList.take a).length = a := by rw [List.length_take, Array.length_toList]; omega
  apply List.ext_getElem?
  intro j
  rw [List.getElem?_take, Array.getElem?_toList, Array.getElem?_toList, putAt_get vs o C j (by omega), putAt_get vs o _ j (by rw [List.size_toArray, hl]; omega)]
  by_cases hj : j < a
  · rw [if_pos hj]
    by_cases h : o ≤ j ∧ j < o + vs.length
    · rw [if_pos h, if_pos h]
    · rw [if_neg h, if_neg h]
      simp [hj]
  · rw [if_neg hj, if_neg (by omega)]
    simp
    omega
/- One element written. -/
theorem Ow.put (hk : ∀ x, (f x).length = k) (hpos : 0 < k) {T : TypeId} {g cap : Nat} {L : List α} {w W : World} (h : Ow f k T g cap L w) (i : Nat) (hi : i < L.length) (e : α)
    {C : Array Value} (hC : Blk g C T w) (hW : Blk g (putAt C (i * k) (f e)) T W) : Ow f k T g cap (L.set i e) W := by
  obtain ⟨cur, h0, h1, h2, h3, h4⟩ := h
  obtain ⟨rfl, _⟩ := h0.eq hC
  refine ⟨_, hW, by rw [List.length_set]; exact h1, h2, by rw [putAt_size]; exact h3, ?_⟩
  rw [List.length_set]
  have hle : i * k + (f e).length ≤ L.length * k := by rw [hk, ← Nat.succ_mul]; exact Nat.mul_le_mul_right _ hi
  have hle2 : L.length * k ≤ cur.size := by rw [h3]; exact Nat.mul_le_mul_right _ h1
  rw [take_put cur (L.length * k) (i * k) (f e) hle hle2, h4, flat_set hk hpos L i hi e]
/- What lies ahead of a part that was written. -/
theorem Ow.front (hk : ∀ x, (f x).length = k) {T : TypeId} {g cap : Nat} {L : List α} {w W : World} (h : Ow f k T g cap L w) (i : Nat) (hi : i ≤ L.length) (vs : List Value) (hvs : i * k + vs.length ≤ cap * k)
    {C : Array Value} (hC : Blk g C T w) (hW : Blk g (putAt C (i * k) vs) T W) : Ow f k T g cap (L.take i) W := by
  obtain ⟨cur, h0, h1, h2, h3, h4⟩ := h
  obtain ⟨rfl, _⟩ := h0.eq hC
  refine ⟨_, hW, by rw [List.length_take]; omega, h2, by rw [putAt_size]; exact h3, ?_⟩
  rw [List.length_take, Nat.min_eq_left hi, ← flat_take hk, ← h4, List.take_take]
  have hle : i * k ≤ L.length * k := Nat.mul_le_mul_right _ hi
  rw [Nat.min_eq_left hle]
  apply List.ext_getElem?
  intro j
  rw [List.getElem?_take, List.getElem?_take, Array.getElem?_toList, putAt_get vs (i * k) cur j (by omega), Array.getElem?_toList]
  by_cases hj : j < i * k
  · rw [if_pos hj, if_pos hj, if_neg (by omega), Array.getElem?_toList]
  · rw [if_neg hj, if_neg hj]

/- 's[i:]' of a row of one's own. -/
theorem cut_low {P : Program} {ops : Array Oper} {rest : List Oper} {op : Oper} {a : Act} {Q : Exit → Act → World → Prop} (hgd : op.guard = none) (x y : Operand) {t T : TypeId} (ho : op.op = .slice t x (some y) none none)
    (ht : P.underlying t = some (.slice (P.elem t))) (hT : P.elem t = T) (hsz : ∀ w, (sizeOf T).run P w = .ok k w) {g n c i : Nat} {w : World} (hi : i < n) (hc : n ≤ c) (hx : a.eval x = .slice (some ⟨g, 0, none⟩) n c) (hy : a.eval y = .int .i64 (i : Int))
    (hK : wpList P ops Q rest (a.put op.dst (.slice (some ⟨g, i * k, none⟩) (n - i) (c - i))) w) : wpList P ops Q (op :: rest) a w := by
  refine wpList_plain hgd fun K hK' => ?_
  have hr : (Instr.slice t (.slice (some ⟨g, 0, none⟩) n c) (some (.int .i64 (i : Int))) none none).run P w = .ok (.slice (some ⟨g, i * k, none⟩) (n - i) (c - i)) w := by
    rw [run_slice_l w t (some ⟨g, 0, none⟩) n c ht .i64 i (by omega) (by omega), hT, hsz w]
    simp only [Result.andThen, sliced, Int.toNat_natCast]
    rw [if_neg (by omega)]
    simp [Addr.add_mid]
  have hk2 := hK' _ _ hK
  unfold Oper.wp execOp
  simp only [ho, Option.map_some, Option.map_none, hx, hy, Sem.run_bind, run_sliceAt_slice _ _ _ _ _ _ ht, hr, Result.andThen_ok, Sem.run_pure]
  exact hk2
/- A part is cleared. -/
theorem clear_at {P : Program} (hk : ∀ x, (f x).length = k) (hpos : 0 < k) (h1 : ∀ x, ∀ v ∈ f x, v.oneCell' = true) (e : α) {ops : Array Oper} {rest : List Oper} {o : Oper} {a : Act} {Q : Exit → Act → World → Prop} (hgd : o.guard = none) (s : Operand) {t T : TypeId} (ho : o.op = .call { callee := .builtin .clear, args := #[s], argTypes := #[t] })
    (ht : P.underlying t = some (.slice T)) {z : Value} (hv : ∀ w, (zeroValue T).run P w = .ok z w) (hzc : z.cells = (f e).toArray) {G off n c : Nat} {C : Array Value} {w : World} (hG : Blk G C T w) (hn : 0 < n) (hs : off + n * k ≤ C.size) (he : a.eval s = .slice (some ⟨G, off, none⟩) n c)
    (hK : ∀ W, Blk G (putAt C off (flat f (List.replicate n e))) T W → Kp [G] w W → wpList P ops Q rest (a.put o.dst (.tuple #[])) W) : wpList P ops Q (o :: rest) a w := by
  refine wpList_plain hgd fun K hK' => ?_
  have hr : (Builtin.clear_ #[t] o.type #[.slice (some ⟨G, off, none⟩) n c]).run P w = .ok (.tuple #[]) (w.setCells G off (flat f (List.replicate n e))) := by
    have hth := hG.there off (n * k) hs
    have hlen : (flat f (List.replicate n e)).length = n * k := by rw [flat_length hk, List.length_replicate]
    have hst := run_storeCells_cells (P := P) G off (flat f (List.replicate n e)) 0 w (fun j hj => by simpa using (hth j (by omega)).1) (fun j hj => by simpa using (hth j (by omega)).2) (flat_one h1 _)
    simp only [Nat.add_zero] at hst
    have hzz : (Builtin.zeroCells z.cells n).toList = flat f (List.replicate n e) := by
      have := flat_made hk hpos e n
      rw [hzc]
      have e2 : Builtin.zeroCells (f e).toArray n = madeCells (f e).toArray (n * k) := by rw [← hk e]; rfl
      rw [e2, this]
    obtain ⟨m, rfl⟩ : ∃ m, n = m + 1 := ⟨n - 1, by omega⟩
    simp [Builtin.clear_, run_underlying ht, hv, hzz, hst]
  have hk2 := hK' _ _ (hK _ (hG.setCells (flat f (List.replicate n e)) off) (Kp.setCells G (by simp) _ _ w))
  unfold Oper.wp execOp
  simp only [ho, resolve, invoke, builtin, Sem.run_bind, Sem.run_pure, Result.andThen_ok, List.map_toArray, List.map_cons, List.map_nil, he, hr]
  exact hk2

/- The block that a list lies in. -/
def blkOf (a : Option Addr) : List Nat := a.toList.map (·.block)
theorem Lg.in {T : TypeId} {B : Nat} {a : Option Addr} {cap : Nat} {L : List α} {w : World} (h : Lg f k T B a cap L w) : ∀ j ∈ blkOf a, B ≤ j ∧ j < w.heap.size := by
  rcases h with ⟨rfl, _, _⟩ | ⟨g, rfl, hB, h⟩
  · intro j hj; simp [blkOf] at hj
  · intro j hj
    simp [blkOf] at hj
    subst hj
    exact ⟨hB, h.lt⟩
theorem run_append_lk {P : Program} (hk : ∀ x, (f x).length = k) {t T : TypeId} (ty : TypeId) (ht : P.underlying t = some (.slice T)) {i : TypeInfo} {z : Value} {bytes : Nat} (hi : P.info? T = some i) (hz : i.zero = some z) (hs : i.size = k) (hby : i.bytes = bytes) (hzs : z.cells.size = k)
    {B : Nat} {ad : Option Addr} {cap : Nat} {L : List α} {w : World} (h : Lg f k T B ad cap L w) (hB : B ≤ w.heap.size) {x : Value} {M : List α} (hM : 0 < M.length) (hx : Src P k t x M.length (flat f M) w) (hb : (L.length + M.length) * bytes ≤ 140737488355328) (h63 : L.length + M.length ≤ maxLen) :
    ∃ ad' cap' w', (Builtin.append_ #[t, t] ty #[.slice ad L.length cap, x]).run P w = .ok (.slice ad' (L.length + M.length) cap') w' ∧ Lg f k T B ad' cap' (L ++ M) w' ∧ Kp (blkOf ad) w w' ∧ (∃ g, ad' = some ⟨g, 0, none⟩ ∧ (ad' = ad ∨ w.heap.size ≤ g)) := by
  rcases h with ⟨rfl, rfl, rfl⟩ | ⟨g, rfl, hBg, h⟩
  · obtain ⟨cap', w', hr, h1, h2⟩ := run_append_nil (P := P) hk ty ht hi hz hs hby hzs hx hM (by simpa using hb) (by simpa using h63)
    exact ⟨_, cap', w', by simpa using hr, by simpa using Lg.of h1 hB, Kp.of_below h2, _, rfl, .inr (Nat.le_refl _)⟩
  · obtain ⟨g', cap', w', hr, h1, h2, h3⟩ := run_append_ow (P := P) hk ty ht hi hz hs hby hzs h hx hb h63
    refine ⟨_, cap', w', by rw [← List.length_append]; exact hr, Lg.of h1 (by rcases h3 with rfl | h3 <;> omega), h2, g', rfl, ?_⟩
    rcases h3 with rfl | h3
    · exact .inl rfl
    · exact .inr h3
theorem append_lk {P : Program} (hk : ∀ x, (f x).length = k) {ops : Array Oper} {rest : List Oper} {o : Oper} {a : Act} {Q : Exit → Act → World → Prop} (hgd : o.guard = none) (s y : Operand) {t T : TypeId} (ho : o.op = .call { callee := .builtin .append, args := #[s, y], argTypes := #[t, t] })
    (ht : P.underlying t = some (.slice T)) {i : TypeInfo} {z : Value} {bytes : Nat} (hi : P.info? T = some i) (hz : i.zero = some z) (hs : i.size = k) (hby : i.bytes = bytes) (hzs : z.cells.size = k)
    {B : Nat} {ad : Option Addr} {cap : Nat} {L : List α} {w : World} (h : Lg f k T B ad cap L w) (hB : B ≤ w.heap.size) {n : Nat} (hn : L.length = n) (he : a.eval s = .slice ad n cap) {x : Value} {M : List α} (hM : 0 < M.length) (hx : Src P k t x M.length (flat f M) w) (hey : a.eval y = x) (hb : (n + M.length) * bytes ≤ 140737488355328) (h63 : n + M.length ≤ maxLen)
    (hK : ∀ ad' cap' w', Lg f k T B ad' cap' (L ++ M) w' → Kp (blkOf ad) w w' → wpList P ops Q rest (a.put o.dst (.slice ad' (n + M.length) cap')) w') : wpList P ops Q (o :: rest) a w := by
  subst hn
  refine wpList_plain hgd fun K hK' => ?_
  obtain ⟨ad', cap', w', hr, h1, h2, _⟩ := run_append_lk (P := P) hk o.type ht hi hz hs hby hzs h hB hM hx hb h63
  have hk2 := hK' _ _ (hK ad' cap' w' h1 h2)
  unfold Oper.wp execOp
  simp only [ho, resolve, invoke, builtin, Sem.run_bind, Sem.run_pure, Result.andThen_ok, List.map_toArray, List.map_cons, List.map_nil, he, hey, hr]
  exact hk2

end

end Go.Proofs.Ytmnpbjaofemelaa
