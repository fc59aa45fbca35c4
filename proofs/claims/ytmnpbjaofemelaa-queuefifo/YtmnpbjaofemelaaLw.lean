/-
  Lists of any element: one as an argument, no longer than memory bears; append of any list; what a question leaves; worlds one behind the other.
  No condition.
-/
import Derived.Test.YtmnpbjaofemelaaLk
import Derived.SizedLaws
namespace Go.Proofs.Ytmnpbjaofemelaa
set_option maxRecDepth 10000
open Go.ChangeShapes Go.WideShapes Go.ChangeAt Go.RowKit Go.WideElems Go.Sort
set_option linter.unusedVariables false
set_option linter.unusedSimpArgs false

/- A function that is called by a value has a body of its own. -/
def Enters (f : Nat) : Prop := ∀ (args : Array Value) (w : World), (callFunc f args).run Try.prog w = .ok (.enter f args) w

theorem below_next {u w w' : World} (h : Below u.heap.size u w) (hb : Below w.heap.size w w') : Below u.heap.size u w' := h.trans (hb.mono h.size)
theorem below_at {b : Nat} {u w w' : World} (h : Below u.heap.size u w) (hk : Kp [b] w w') (hb : u.heap.size ≤ b) : Below u.heap.size u w' := h.trans (hk.below1 hb h.size)

theorem leNe {a b : ByteArray} (h : ¬ a = b) : ¬ a.toList = b.toList := by
  intro e
  rw [ByteArray.toList_eq, ByteArray.toList_eq] at e
  exact h (ByteArray.ext (Array.ext' e))

/- What a question leaves of a list. -/
def offL {α : Type} (q : α → Bool) (L : List α) : List α := L.filter (fun x => !q x)
theorem off_all {α : Type} (q : α → Bool) (L : List α) (h : ∀ k ∈ L, q k = false) : offL q L = L := by
  unfold offL
  rw [List.filter_eq_self]
  intro k hk
  rw [h k hk]; rfl
theorem off_yes {α : Type} (q : α → Bool) (L : List α) (j : Nat) (k : α) (hk : L[j]? = some k) (h : q k = true) : offL q (L.take (j + 1)) = offL q (L.take j) := by
  unfold offL
  rw [List.take_add_one, hk, List.filter_append]
  simp [h]
theorem off_no {α : Type} (q : α → Bool) (L : List α) (j : Nat) (k : α) (hk : L[j]? = some k) (h : q k = false) : offL q (L.take (j + 1)) = offL q (L.take j) ++ [k] := by
  unfold offL
  rw [List.take_add_one, hk, List.filter_append]
  simp [h]
theorem set_take1 {α : Type} (M : List α) (i : Nat) (k : α) (h : i < M.length) : (M.set i k).take (i + 1) = M.take i ++ [k] := by
  rw [List.take_add_one, List.getElem?_set_self h, List.take_set, List.set_eq_of_length_le (by simp; omega)]
  rfl

section
variable {α : Type} {f : α → List Value} {k : Nat}

/- Append to a list of one's own, of any list. -/
theorem run_append_any {P : Program} (hk : ∀ x, (f x).length = k) {t T : TypeId} (ty : TypeId) (ht : P.underlying t = some (.slice T)) {i : TypeInfo} {z : Value} {bytes : Nat} (hi : P.info? T = some i) (hz : i.zero = some z) (hs : i.size = k) (hby : i.bytes = bytes) (hzs : z.cells.size = k)
    {B : Nat} {ad : Option Addr} {cap : Nat} {L : List α} {w : World} (h : Lg f k T B ad cap L w) (hB : B ≤ w.heap.size) {x : Value} {M : List α} (hx : Src P k t x M.length (flat f M) w) (hb : (L.length + M.length) * bytes ≤ 140737488355328) (h63 : L.length + M.length ≤ maxLen) :
    ∃ ad' cap' w', (Builtin.append_ #[t, t] ty #[.slice ad L.length cap, x]).run P w = .ok (.slice ad' (L.length + M.length) cap') w' ∧ Lg f k T B ad' cap' (L ++ M) w' ∧ Kp (blkOf ad) w w' ∧ (∀ A ∈ blkOf ad', A ∈ blkOf ad ∨ w.heap.size ≤ A) := by
  rcases Nat.eq_zero_or_pos M.length with h0 | h0
  · obtain rfl := List.length_eq_zero_iff.1 h0
    rcases h with ⟨rfl, rfl, rfl⟩ | ⟨g, rfl, hBg, h⟩
    · refine ⟨none, 0, w, ?_, by simpa using Lg.none _ _ _, Kp.refl _ _, fun A hA => .inl hA⟩
      subst hs
      have hl := hx.len
      have hc := hx.cells
      simp only [List.length_nil] at hl hc
      rcases hx.kind with ⟨e', hq⟩ | hq <;> simp [Builtin.append_, run_underlying ht, run_underlying hq, sizeOf, typeInfo, hi, hl, hc]
    · obtain ⟨g', cap', w', hr, h1, h2, h3⟩ := run_append_ow (P := P) hk ty ht hi hz hs hby hzs h hx hb h63
      refine ⟨_, cap', w', by rw [← List.length_append]; exact hr, Lg.of h1 (by rcases h3 with rfl | h3 <;> omega), h2, fun A hA => ?_⟩
      simp [blkOf] at hA
      subst hA
      rcases h3 with rfl | h3
      · exact .inl (by simp [blkOf])
      · exact .inr h3
  · obtain ⟨ad', cap', w', hr, h1, h2, g, e, h3⟩ := run_append_lk (P := P) hk ty ht hi hz hs hby hzs h hB h0 hx hb h63
    refine ⟨ad', cap', w', hr, h1, h2, fun A hA => ?_⟩
    rcases h3 with h3 | h3
    · rw [h3] at hA; exact .inl hA
    · rw [e] at hA; simp [blkOf] at hA; subst hA; exact .inr h3
theorem append_any {P : Program} (hk : ∀ x, (f x).length = k) {ops : Array Oper} {rest : List Oper} {o : Oper} {a : Act} {Q : Exit → Act → World → Prop} (hgd : o.guard = none) (s y : Operand) {t T : TypeId} (ho : o.op = .call { callee := .builtin .append, args := #[s, y], argTypes := #[t, t] })
    (ht : P.underlying t = some (.slice T)) {i : TypeInfo} {z : Value} {bytes : Nat} (hi : P.info? T = some i) (hz : i.zero = some z) (hs : i.size = k) (hby : i.bytes = bytes) (hzs : z.cells.size = k)
    {B : Nat} {ad : Option Addr} {cap : Nat} {L : List α} {w : World} (h : Lg f k T B ad cap L w) (hB : B ≤ w.heap.size) {n : Nat} (hn : L.length = n) (he : a.eval s = .slice ad n cap) {x : Value} {M : List α} {m : Nat} (hm : M.length = m) (hx : Src P k t x M.length (flat f M) w) (hey : a.eval y = x) (hb : (n + m) * bytes ≤ 140737488355328) (h63 : n + m ≤ maxLen)
    (hK : ∀ ad' cap' w', Lg f k T B ad' cap' (L ++ M) w' → Kp (blkOf ad) w w' → (∀ A ∈ blkOf ad', A ∈ blkOf ad ∨ w.heap.size ≤ A) → wpList P ops Q rest (a.put o.dst (.slice ad' (n + m) cap')) w') : wpList P ops Q (o :: rest) a w := by
  subst hn hm
  refine wpList_plain hgd fun K hK' => ?_
  obtain ⟨ad', cap', w', hr, h1, h2, h3⟩ := run_append_any (P := P) hk o.type ht hi hz hs hby hzs h hB hx hb h63
  have hk2 := hK' _ _ (hK ad' cap' w' h1 h2 h3)
  unfold Oper.wp execOp
  simp only [ho, resolve, invoke, builtin, Sem.run_bind, Sem.run_pure, Result.andThen_ok, List.map_toArray, List.map_cons, List.map_nil, he, hey, hr]
  exact hk2

theorem wp_append_any {P : Program} (hk : ∀ x, (f x).length = k) {o : Oper} {a : Act} {K : Act → World → Prop} {Q : Exit → Act → World → Prop} (s y : Operand) {t T : TypeId} (ho : o.op = .call { callee := .builtin .append, args := #[s, y], argTypes := #[t, t] })
    (ht : P.underlying t = some (.slice T)) {i : TypeInfo} {z : Value} {bytes : Nat} (hi : P.info? T = some i) (hz : i.zero = some z) (hs : i.size = k) (hby : i.bytes = bytes) (hzs : z.cells.size = k)
    {B : Nat} {ad : Option Addr} {cap : Nat} {L : List α} {w : World} (h : Lg f k T B ad cap L w) (hB : B ≤ w.heap.size) {n : Nat} (hn : L.length = n) (he : a.eval s = .slice ad n cap) {x : Value} {M : List α} {m : Nat} (hm : M.length = m) (hx : Src P k t x M.length (flat f M) w) (hey : a.eval y = x) {p : Nat} (hp : n + m = p) (hb : p * bytes ≤ 140737488355328) (h63 : p ≤ maxLen)
    (hK : ∀ ad' cap' w', Lg f k T B ad' cap' (L ++ M) w' → Kp (blkOf ad) w w' → (∀ A ∈ blkOf ad', A ∈ blkOf ad ∨ w.heap.size ≤ A) → K (a.put o.dst (.slice ad' p cap')) w') : o.wp P a w K Q := by
  subst hn hm hp
  obtain ⟨ad', cap', w', hr, h1, h2, h3⟩ := run_append_any (P := P) hk o.type ht hi hz hs hby hzs h hB hx hb h63
  have hk2 := hK ad' cap' w' h1 h2 h3
  unfold Oper.wp execOp
  simp only [ho, resolve, invoke, builtin, Sem.run_bind, Sem.run_pure, Result.andThen_ok, List.map_toArray, List.map_cons, List.map_nil, he, hey, hr]
  exact hk2

end

section
variable {H : Type} {enc : TypeId × Value → H} {W : World} {base : Nat} {spare : Nat → Bool} {held : Bool}

theorem weights_all {P : Program} {e : TypeId} {n : Nat} : ∀ {ds : List (DataW H)} {d : DataW H}, d ∈ ds → n ∈ d.weights P e → n ∈ DataW.weightsAll P e ds
  | [], _, h, _ => by simp at h
  | x :: ds, d, h, hn => by
    rw [DataW.weightsAll]
    rcases List.mem_cons.1 h with rfl | h
    · exact List.mem_append_left _ hn
    · exact List.mem_append_right _ (weights_all h hn)

/- A slice as an argument: no longer than memory bears; each element as its own law says. -/
theorem open_liw {α : Type} {f : α → List Value} {k : Nat} {P : Program} {Pr : α → Prop} (e0 : α) (hk : ∀ x, (f x).length = k) (hpos : 0 < k) {TS T : TypeId} {bytes : Nat} (hu : P.underlying TS = some (.slice T)) (hC : P.cellsOf T = k) (hby : P.bytesOf T = bytes)
    (hel : ∀ {cs : List Value} {fuel : Nat} {x : DataW H × List MemPlace}, DataW.trod enc P W base spare held fuel T cs = some x → (∀ n ∈ x.1.weights P T, n ≤ reachBytes) → ∃ e : α, cs = f e ∧ Pr e)
    {v : Value} {d : DataW H} {p : List MemPlace} (hv : ∃ a n c, v = .slice a n c) (hw : ∀ n ∈ d.weights P TS, n ≤ reachBytes) (h : DataW.Trod enc P W base spare held TS v d p) :
    ∃ (a : Option Addr) (L : List α) (c : Nat), v = .slice a L.length c ∧ L.length * bytes ≤ 140737488351232 ∧ L.length ≤ c ∧ c ≤ maxLen ∧ (∀ x ∈ L, Pr x) ∧ Li f 0 a L W := by
  obtain ⟨a0, n0, c0, rfl⟩ := hv
  obtain ⟨fuel, hf⟩ := h
  rcases Go.Deep.open_slice hu hf with ⟨hc, _⟩ | ⟨a, len, cap, m, n, D, Pl, hcs, _, hlc, hcm, hm, hx, hcell⟩
  · simp [Value.cells] at hc
    obtain ⟨rfl, rfl, rfl⟩ := hc
    exact ⟨none, [], 0, rfl, by simp, by simp, Nat.zero_le _, by simp, .inl rfl⟩
  · simp [Value.cells] at hcs
    obtain ⟨rfl, rfl, rfl⟩ := hcs
    rw [hC] at hcell
    have hlm : n0 ≤ m := by rw [hm]; split <;> omega
    have hd : d = .slice ((List.range n0).map D) ((List.range (m - n0)).map fun j => D (n0 + j)) := by injection hx
    subst hd
    simp only [DataW.weights, hu, hby] at hw
    have hwt : n0 * bytes ≤ 140737488351232 := by
      have h1 := hw _ (List.mem_cons_self ..)
      simp only [List.length_map, List.length_range, reachBytes] at h1
      have h2 : n0 * bytes ≤ (n0 + (m - n0)) * bytes := Nat.mul_le_mul_right _ (by omega)
      omega
    have key : ∀ i, ∃ e : α, i < n0 → (∃ cs', W.cells? base (a.add (i * k)) k = some cs' ∧ cs' = f e) ∧ Pr e := by
      intro i
      by_cases hi : i < n0
      · obtain ⟨cs', h1, h2⟩ := hcell i (by omega)
        obtain ⟨e, he, hp⟩ := hel h2 (fun n hn => hw n (List.mem_cons_of_mem _ (List.mem_append_left _ (weights_all (List.mem_map.2 ⟨i, by simpa using hi, rfl⟩) hn))))
        exact ⟨e, fun _ => ⟨⟨cs', h1, he⟩, hp⟩⟩
      · exact ⟨e0, fun h => absurd h hi⟩
    obtain ⟨E, hE⟩ := Classical.axiomOfChoice key
    refine ⟨some a, (List.range n0).map E, c0, by simp, by simpa using hwt, by simpa using hlc, hcm, fun x hx => ?_, ?_⟩
    · obtain ⟨i, hi, rfl⟩ := List.mem_map.1 hx
      exact (hE i (by simpa using hi)).2
    by_cases h0 : n0 = 0
    · subst h0; exact .inl rfl
    · have hget : ∀ i r, i < n0 → r < k → W.cell? ((a.add (i * k)).add r) = (f (E i))[r]? := by
        intro i r hi hr
        obtain ⟨cs', h1, rfl⟩ := (hE i hi).1
        unfold World.cells? at h1
        split at h1
        · exact mapM_some_get h1 r r (by simp [hr])
        · cases h1
      have h0' := hget 0 0 (by omega) hpos
      obtain ⟨v0, hv0⟩ : ∃ v0, (f (E 0))[0]? = some v0 := ⟨_, List.getElem?_eq_getElem (by rw [hk]; exact hpos)⟩
      obtain ⟨b, o, s⟩ := a
      cases s with
      | some q =>
        rw [hv0] at h0'
        simp [World.cell?, Addr.add] at h0'
        split at h0' <;> simp_all
      | none =>
      have hfirst : W.cell? ⟨b, o, none⟩ = some v0 := by
        rw [Addr.add_mid, Addr.add_mid, hv0] at h0'
        simpa using h0'
      refine .inr ⟨b, o, rfl, Nat.zero_le _, block_lt_of_cell hfirst, fun j v hv => ?_⟩
      have hj : j < n0 * k := by
        have h := (List.getElem?_eq_some_iff.1 hv).1
        rw [flat_length hk] at h
        simpa using h
      have hd : j / k < n0 := (Nat.div_lt_iff_lt_mul hpos).2 hj
      have hmod : j % k < k := Nat.mod_lt _ hpos
      have hat := flat_get hk ((List.range n0).map E) (j / k) (E (j / k)) (by simp [hd]) (j % k) hmod
      have hjj : j / k * k + j % k = j := by rw [Nat.mul_comm]; exact Nat.div_add_mod j k
      rw [hjj] at hat
      have h := hget (j / k) (j % k) hd hmod
      rw [Addr.add_mid, Addr.add_mid] at h
      rw [show o + j = o + j / k * k + j % k by omega, h, ← hat]
      exact hv

end

theorem i64_of (n : Int) (h : (Lit.int .i64 n).wf = true) : -9223372036854775808 ≤ n ∧ n ≤ 9223372036854775807 := by
  simp [Lit.wf, IntKind.min, IntKind.max, IntKind.signed, IntKind.bits] at h
  omega
theorem u32_nat (n : Int) (h : (Lit.int .u32 n).wf = true) : ∃ x : Nat, n = (x : Int) ∧ x < 4294967296 := by
  simp [Lit.wf, IntKind.min, IntKind.max, IntKind.signed, IntKind.bits] at h
  exact ⟨n.toNat, by omega, by omega⟩
theorem u64_nat (n : Int) (h : (Lit.int .u64 n).wf = true) : ∃ x : Nat, n = (x : Int) ∧ x < 18446744073709551616 := by
  simp [Lit.wf, IntKind.min, IntKind.max, IntKind.signed, IntKind.bits] at h
  exact ⟨n.toNat, by omega, by omega⟩

section
variable {α : Type} {f : α → List Value} {k : Nat}

theorem put_set (hk : ∀ x, (f x).length = k) {C : Array Value} {i r : Nat} {x e : α} {v : Value} (hC : ∀ j, j < k → C[i * k + j]? = (f x)[j]?) (hsz : i * k + k ≤ C.size) (he : f e = (f x).set r v) (hr : r < k) : putAt C (i * k) (f e) = C.setIfInBounds (i * k + r) v := by
  apply Array.ext_getElem?
  intro j
  rw [putAt_get (f e) (i * k) C j (by rw [hk]; exact hsz), hk, Array.getElem?_setIfInBounds]
  by_cases h : i * k ≤ j ∧ j < i * k + k
  · rw [if_pos h, he, List.getElem?_set, hk]
    by_cases h2 : i * k + r = j
    · rw [if_pos (by omega), if_pos h2, if_pos (by omega), if_pos (by omega)]
    · rw [if_neg (by omega), if_neg h2, ← hC (j - i * k) (by omega), show i * k + (j - i * k) = j by omega]
  · rw [if_neg h, if_neg (by omega)]
/- One cell of an element of a row of one's own is written. -/
theorem Ow.cell1 (hk : ∀ x, (f x).length = k) (hpos : 0 < k) {T : TypeId} {g cap : Nat} {L : List α} {w W : World} (h : Ow f k T g cap L w) (i : Nat) (x : α) (hx : L[i]? = some x) (e : α) {r : Nat} {v : Value} (he : f e = (f x).set r v) (hr : r < k)
    {C : Array Value} (hC : Blk g C T w) (hW : Blk g (C.setIfInBounds (i * k + r) v) T W) : Ow f k T g cap (L.set i e) W := by
  have hi := (List.getElem?_eq_some_iff.1 hx).1
  obtain ⟨cur, h0, h1, h2, h3, h4⟩ := h
  obtain ⟨rfl, _⟩ := h0.eq hC
  have hle : i * k + k ≤ L.length * k := by rw [← Nat.succ_mul]; exact Nat.mul_le_mul_right _ hi
  have hle2 : L.length * k ≤ cur.size := by rw [h3]; exact Nat.mul_le_mul_right _ h1
  refine Ow.put hk hpos ⟨cur, h0, h1, h2, h3, h4⟩ i hi e h0 ?_
  rw [put_set hk (x := x) (r := r) (v := v) (fun j hj => ?_) (by omega) he hr]
  · exact hW
  · have h5 := flat_get hk L i x hx j hj
    rw [← h4, List.getElem?_take, if_pos (by omega), Array.getElem?_toList] at h5
    exact h5
theorem Ow.blk {T : TypeId} {g cap : Nat} {L : List α} {w : World} (h : Ow f k T g cap L w) : ∃ C, Blk g C T w ∧ L.length * k ≤ C.size := by
  obtain ⟨c, h0, h1, _, h3, _⟩ := h
  exact ⟨c, h0, by rw [h3]; exact Nat.mul_le_mul_right _ h1⟩

end

/- The first one of a list. -/
def placeI : Option Nat → Int
  | some j => (j : Int)
  | none => -1
theorem first_at {α : Type} (q : α → Bool) : ∀ (L : List α) (j : Nat) (k : α), L[j]? = some k → q k = true → (∀ k' ∈ L.take j, q k' = false) → L.findIdx? q = some j
  | [], j, k, h, _, _ => by simp at h
  | x :: L, 0, k, h, hq, _ => by
    simp at h
    subst h
    rw [List.findIdx?_cons, hq]
    rfl
  | x :: L, j + 1, k, h, hq, ha => by
    have h1 := first_at q L j k (by simpa using h) hq (fun k' hk => ha k' (by simp [hk]))
    rw [List.findIdx?_cons, ha x (by simp), h1]
    rfl
theorem first_no {α : Type} (q : α → Bool) (L : List α) (h : ∀ k ∈ L, q k = false) : L.findIdx? q = none := by
  rw [List.findIdx?_eq_none_iff]
  exact h
theorem first_some {α : Type} (q : α → Bool) : ∀ (L : List α) (j : Nat), L.findIdx? q = some j → ∃ k, L[j]? = some k ∧ q k = true ∧ ∀ k' ∈ L.take j, q k' = false
  | [], j, h => by simp at h
  | x :: L, j, h => by
    rw [List.findIdx?_cons] at h
    by_cases hq : q x = true
    · rw [if_pos hq] at h
      injection h with h
      subst h
      exact ⟨x, rfl, hq, by simp⟩
    · rw [if_neg hq] at h
      cases e : L.findIdx? q with
      | none => rw [e] at h; simp at h
      | some i =>
        rw [e] at h
        simp at h
        subst h
        obtain ⟨k, h1, h2, h3⟩ := first_some q L i e
        refine ⟨k, by simpa using h1, h2, fun k' hk => ?_⟩
        simp at hk
        rcases hk with rfl | hk
        · simpa using hq
        · exact h3 k' hk
theorem first_none {α : Type} (q : α → Bool) (L : List α) (h : L.findIdx? q = none) : ∀ k ∈ L, q k = false := by
  rw [List.findIdx?_eq_none_iff] at h
  exact h

/- Two lists in a strict order with the same elements are the same. -/
theorem sorted_eq {α : Type} (lt : α → α → Prop) (irr : ∀ a, ¬ lt a a) (asym : ∀ a b, lt a b → ¬ lt b a) : ∀ (L M : List α), L.Pairwise lt → M.Pairwise lt → (∀ x, x ∈ L ↔ x ∈ M) → L = M
  | [], [], _, _, _ => rfl
  | [], y :: M, _, _, h => by have := (h y).2 (by simp); simp at this
  | x :: L, [], _, _, h => by have := (h x).1 (by simp); simp at this
  | x :: L, y :: M, hL, hM, h => by
    rw [List.pairwise_cons] at hL hM
    have hxy : x = y := by
      apply Classical.byContradiction
      intro hne
      have h1 : x ∈ M := by
        rcases List.mem_cons.1 ((h x).1 (by simp)) with e | e
        · exact absurd e hne
        · exact e
      have h2 : y ∈ L := by
        rcases List.mem_cons.1 ((h y).2 (by simp)) with e | e
        · exact absurd e.symm hne
        · exact e
      exact asym _ _ (hM.1 x h1) (hL.1 y h2)
    subst hxy
    congr 1
    refine sorted_eq lt irr asym L M hL.2 hM.2 fun z => ?_
    constructor
    · intro hz
      rcases List.mem_cons.1 ((h z).1 (List.mem_cons_of_mem _ hz)) with e | e
      · subst e
        exact absurd (hL.1 z hz) (irr z)
      · exact e
    · intro hz
      rcases List.mem_cons.1 ((h z).2 (List.mem_cons_of_mem _ hz)) with e | e
      · subst e
        exact absurd (hM.1 z hz) (irr z)
      · exact e

/- 'l[i:]' of any list, in a region that draws. -/
def cutA (ad : Option Addr) (c i k : Nat) : Option Addr := if c = i then ad else ad.map (·.add (i * k))
theorem Li.cut {α : Type} {f : α → List Value} {k : Nat} (hk : ∀ x, (f x).length = k) {B : Nat} {a : Option Addr} {L : List α} {w : World} (h : Li f B a L w) (c i : Nat) (hc : L.length ≤ c) (hi : i ≤ L.length) : Li f B (cutA a c i k) (L.drop i) w := by
  unfold cutA
  by_cases h1 : c = i
  · rw [List.drop_eq_nil_of_le (by omega)]
    exact Li.nil _ _ _
  · rw [if_neg h1]
    rcases h with rfl | ⟨b, o, rfl, hB, hlt, hr⟩
    · exact .inl (by simp)
    · exact .inr ⟨b, o + i * k, by simp [Addr.add_mid], hB, hlt, range_drop hk hr i hi⟩
theorem yields_cut {P : Program} {ops : Array Oper} {S : World → Prop} {op : Oper} {a : Act} (hw : Region.wanted op (yielded ops a.tmps) = true) (x y : Operand) {t T : TypeId} {k : Nat} (ho : op.op = .slice t x (some y) none none)
    (ht : P.underlying t = some (.slice (P.elem t))) (hT : P.elem t = T) (hsz : ∀ w, (sizeOf T).run P w = .ok k w) {ad : Option Addr} {n c i : Nat} (hi : i ≤ n) (hx : a.eval x = .slice ad n c) (hy : a.eval y = .int .i64 (i : Int)) : YieldsIf P ops S op (.slice (cutA ad c i k) (n - i) (c - i)) a :=
  .inl ⟨hw, fun w _ => by
    have hr : (Instr.slice t (.slice ad n c) (some (.int .i64 (i : Int))) none none).run P w = .ok (.slice (cutA ad c i k) (n - i) (c - i)) w := by
      rw [run_slice_l w t ad n c ht .i64 i (by omega) (by omega), hT, hsz w]
      simp [Result.andThen, sliced, cutA]
    unfold execOp
    simp only [ho, Option.map_some, Option.map_none, hx, hy, Sem.run_bind, run_sliceAt_slice _ _ _ _ _ _ ht, hr, Result.andThen_ok, Sem.run_pure]⟩

theorem take_min {α : Type} (L : List α) (k : Nat) : L.take k = L.take (min L.length k) := by
  rcases Nat.le_total L.length k with h | h
  · rw [Nat.min_eq_left h, List.take_of_length_le h, List.take_of_length_le (Nat.le_refl _)]
  · rw [Nat.min_eq_right h]
theorem Li.take {α : Type} {f : α → List Value} {k : Nat} (hk : ∀ x, (f x).length = k) {B : Nat} {a : Option Addr} {L : List α} {w : World} (h : Li f B a L w) (n : Nat) : Li f B a (L.take n) w := by
  rcases h with rfl | ⟨b, o, e, hB, hlt, hr⟩
  · exact .inl (by simp)
  · refine .inr ⟨b, o, e, hB, hlt, fun j v hv => hr j v ?_⟩
    rw [← flat_take hk, List.getElem?_take] at hv
    split at hv
    · exact hv
    · cases hv

section
variable {α : Type} {f : α → List Value} {k : Nat}
/- 's[i:]' of any list. -/
theorem cut_any {P : Program} {ops : Array Oper} {rest : List Oper} {op : Oper} {a : Act} {Q : Exit → Act → World → Prop} (hgd : op.guard = none) (x y : Operand) {t T : TypeId} (ho : op.op = .slice t x (some y) none none)
    (ht : P.underlying t = some (.slice (P.elem t))) (hT : P.elem t = T) (hsz : ∀ w, (sizeOf T).run P w = .ok k w) {ad : Option Addr} {n c i : Nat} {w : World} (hi : i ≤ n) (hx : a.eval x = .slice ad n c) (hy : a.eval y = .int .i64 (i : Int))
    (hK : wpList P ops Q rest (a.put op.dst (.slice (cutA ad c i k) (n - i) (c - i))) w) : wpList P ops Q (op :: rest) a w := by
  refine wpList_plain hgd fun K hK' => ?_
  have hr : (Instr.slice t (.slice ad n c) (some (.int .i64 (i : Int))) none none).run P w = .ok (.slice (cutA ad c i k) (n - i) (c - i)) w := by
    rw [run_slice_l w t ad n c ht .i64 i (by omega) (by omega), hT, hsz w]
    simp [Result.andThen, sliced, cutA]
  have hk2 := hK' _ _ hK
  unfold Oper.wp execOp
  simp only [ho, Option.map_some, Option.map_none, hx, hy, Sem.run_bind, run_sliceAt_slice _ _ _ _ _ _ ht, hr, Result.andThen_ok, Sem.run_pure]
  exact hk2
/- 's[i:j]' of any list. -/
theorem cut_lh {P : Program} {ops : Array Oper} {rest : List Oper} {op : Oper} {a : Act} {Q : Exit → Act → World → Prop} (hgd : op.guard = none) (x y z : Operand) {t T : TypeId} (ho : op.op = .slice t x (some y) (some z) none)
    (ht : P.underlying t = some (.slice (P.elem t))) (hT : P.elem t = T) (hsz : ∀ w, (sizeOf T).run P w = .ok k w) {ad : Option Addr} {n c i j : Nat} {w : World} (hi : i ≤ j) (hj : j ≤ c) (hx : a.eval x = .slice ad n c) (hy : a.eval y = .int .i64 (i : Int)) (hz : a.eval z = .int .i64 (j : Int))
    (hK : wpList P ops Q rest (a.put op.dst (.slice (cutA ad c i k) (j - i) (c - i))) w) : wpList P ops Q (op :: rest) a w := by
  refine wpList_plain hgd fun K hK' => ?_
  have hr : (Instr.slice t (.slice ad n c) (some (.int .i64 (i : Int))) (some (.int .i64 (j : Int))) none).run P w = .ok (.slice (cutA ad c i k) (j - i) (c - i)) w := by
    rw [run_slice_lh w t ad n c ht .i64 .i64 i j (by omega) (by omega) (by omega), hT, hsz w]
    simp [Result.andThen, sliced, cutA]
  have hk2 := hK' _ _ hK
  unfold Oper.wp execOp
  simp only [ho, Option.map_some, Option.map_none, hx, hy, hz, Sem.run_bind, run_sliceAt_slice _ _ _ _ _ _ ht, hr, Result.andThen_ok, Sem.run_pure]
  exact hk2
theorem cutA_some {g c i k : Nat} (h : i < c) : cutA (some ⟨g, 0, none⟩) c i k = some ⟨g, i * k, none⟩ := by
  unfold cutA
  rw [if_neg (by omega)]
  simp [Addr.add_mid]
theorem Ow.take (hk : ∀ x, (f x).length = k) {T : TypeId} {g cap : Nat} {L : List α} {w : World} (h : Ow f k T g cap L w) (i : Nat) (hi : i ≤ L.length) : Ow f k T g cap (L.take i) w := by
  obtain ⟨c, h0, h1, h2, h3, h4⟩ := h
  have hl : (L.take i).length = i := by rw [List.length_take]; omega
  refine ⟨c, h0, by omega, h2, h3, ?_⟩
  rw [hl, ← flat_take hk, ← h4, List.take_take, Nat.min_eq_left (Nat.mul_le_mul_right _ hi)]
/- Append within the room of a row of one's own: in place. -/
theorem run_append_in {P : Program} (hk : ∀ x, (f x).length = k) {t T : TypeId} (ty : TypeId) (ht : P.underlying t = some (.slice T)) {i : TypeInfo} (hi : P.info? T = some i) (hs : i.size = k)
    {g cap : Nat} {L : List α} {w : World} (h : Ow f k T g cap L w) {x : Value} {M : List α} (hx : Src P k t x M.length (flat f M) w) (hroom : L.length + M.length ≤ cap) :
    ∃ w', (Builtin.append_ #[t, t] ty #[.slice (some ⟨g, 0, none⟩) L.length cap, x]).run P w = .ok (.slice (some ⟨g, 0, none⟩) (L.length + M.length) cap) w' ∧ Ow f k T g cap (L ++ M) w' ∧ Kp [g] w w' := by
  subst hs
  obtain ⟨cur, h0, hlc, hcm, hcs, htk⟩ := h
  have hle : L.length * i.size + M.length * i.size ≤ cur.size := by rw [hcs, ← Nat.add_mul]; exact Nat.mul_le_mul_right _ hroom
  have hth := h0.there (L.length * i.size) (M.length * i.size) hle
  have hr := run_append_room_src (P := P) w t t ty T i ht hi g 0 L.length cap x M.length (flat f M) hx hroom (fun j hj => by rw [flat_length hk] at hj; simpa using (hth j hj).1) (fun j hj => by rw [flat_length hk] at hj; simpa using (hth j hj).2)
  rw [Nat.zero_add] at hr
  refine ⟨_, hr, ⟨_, h0.setCells (flat f M) (L.length * i.size), by rw [List.length_append]; exact hroom, hcm, by rw [putAt_size]; exact hcs, ?_⟩, Kp.setCells g (by simp) _ _ w⟩
  apply List.ext_getElem?
  intro j
  rw [List.getElem?_take, flat_append, List.length_append, Nat.add_mul]
  have hg := putAt_get (flat f M) (L.length * i.size) cur j (by rw [flat_length hk]; exact hle)
  rw [Array.getElem?_toList, hg, flat_length hk]
  by_cases h1 : j < L.length * i.size
  · rw [if_pos (by omega), if_neg (by omega), List.getElem?_append_left (by rw [flat_length hk]; exact h1), ← htk, List.getElem?_take, if_pos h1, Array.getElem?_toList]
  · by_cases h2 : j < L.length * i.size + M.length * i.size
    · rw [if_pos h2, if_pos (by omega), List.getElem?_append_right (by rw [flat_length hk]; omega), flat_length hk]
    · rw [if_neg h2, List.getElem?_eq_none (by rw [List.length_append, flat_length hk, flat_length hk]; omega)]
theorem wp_append_in {P : Program} (hk : ∀ x, (f x).length = k) {o : Oper} {a : Act} {K : Act → World → Prop} {Q : Exit → Act → World → Prop} (s y : Operand) {t T : TypeId} (ho : o.op = .call { callee := .builtin .append, args := #[s, y], argTypes := #[t, t] })
    (ht : P.underlying t = some (.slice T)) {i : TypeInfo} (hi : P.info? T = some i) (hs : i.size = k) {g cap : Nat} {L : List α} {w : World} (h : Ow f k T g cap L w) {n : Nat} (hn : L.length = n) (he : a.eval s = .slice (some ⟨g, 0, none⟩) n cap) {x : Value} {M : List α} {m : Nat} (hm : M.length = m) (hx : Src P k t x m (flat f M) w) (hey : a.eval y = x) {p : Nat} (hp : n + m = p) (hroom : p ≤ cap)
    (hK : ∀ w', Ow f k T g cap (L ++ M) w' → Kp [g] w w' → K (a.put o.dst (.slice (some ⟨g, 0, none⟩) p cap)) w') : o.wp P a w K Q := by
  subst hn
  subst hm
  subst hp
  obtain ⟨w', hr, h1, h2⟩ := run_append_in (P := P) hk o.type ht hi hs h hx hroom
  have hk2 := hK w' h1 h2
  unfold Oper.wp execOp
  simp only [ho, resolve, invoke, builtin, Sem.run_bind, Sem.run_pure, Result.andThen_ok, List.map_toArray, List.map_cons, List.map_nil, he, hey, hr]
  exact hk2
/- 's[i:j]' of a row of one's own. -/
theorem cut_mid {P : Program} {ops : Array Oper} {rest : List Oper} {op : Oper} {a : Act} {Q : Exit → Act → World → Prop} (hgd : op.guard = none) (x y z : Operand) {t T : TypeId} (ho : op.op = .slice t x (some y) (some z) none)
    (ht : P.underlying t = some (.slice (P.elem t))) (hT : P.elem t = T) (hsz : ∀ w, (sizeOf T).run P w = .ok k w) {g n c i j : Nat} {w : World} (hi : i < j) (hj : j ≤ c) (hx : a.eval x = .slice (some ⟨g, 0, none⟩) n c) (hy : a.eval y = .int .i64 (i : Int)) (hz : a.eval z = .int .i64 (j : Int))
    (hK : wpList P ops Q rest (a.put op.dst (.slice (some ⟨g, i * k, none⟩) (j - i) (c - i))) w) : wpList P ops Q (op :: rest) a w :=
  cut_lh hgd x y z ho ht hT hsz (Nat.le_of_lt hi) hj hx hy hz (by rw [cutA_some (by omega)]; exact hK)
end

end Go.Proofs.Ytmnpbjaofemelaa
