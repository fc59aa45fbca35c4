/-
  Lists as slices: their cells, in whatever memory; rows that the call itself made, and what append makes of them; lists as arguments.
  No condition.
-/
import Derived.Test.YtmnpbjaofemelaaBk
import Derived.ProofKit
import Derived.OpenShut
import Derived.OpenVars
import Derived.Deep.Slices
namespace Go.Proofs.Ytmnpbjaofemelaa
set_option maxRecDepth 10000
open Go.RowKit Go.Sort

section
variable {α : Type} {f : α → List Value} {k : Nat}

def flat (f : α → List Value) (l : List α) : List Value := l.flatMap f

theorem flat_cons (f : α → List Value) (x : α) (l : List α) : flat f (x :: l) = f x ++ flat f l := rfl
theorem flat_append (f : α → List Value) (l m : List α) : flat f (l ++ m) = flat f l ++ flat f m := by simp [flat]
theorem flat_length (hk : ∀ x, (f x).length = k) (l : List α) : (flat f l).length = l.length * k := by
  induction l with
  | nil => simp [flat]
  | cons x l ih => rw [flat_cons, List.length_append, hk, ih, List.length_cons, Nat.add_mul]; omega
theorem flat_get (hk : ∀ x, (f x).length = k) : ∀ (l : List α) (i : Nat) (x : α), l[i]? = some x → ∀ j, j < k → (flat f l)[i * k + j]? = (f x)[j]?
  | [], i, x, h, _, _ => by simp at h
  | y :: l, 0, x, h, j, hj => by
    simp at h
    subst h
    rw [flat_cons, List.getElem?_append_left (by rw [hk]; omega)]
    simp
  | y :: l, i + 1, x, h, j, hj => by
    simp at h
    rw [flat_cons, List.getElem?_append_right (by rw [hk, Nat.add_mul]; omega), ← flat_get hk l i x h j hj, hk]
    congr 1
    rw [Nat.add_mul]
    omega
theorem flat_take (hk : ∀ x, (f x).length = k) (l : List α) (n : Nat) : (flat f l).take (n * k) = flat f (l.take n) := by
  induction l generalizing n with
  | nil => simp [flat]
  | cons x l ih =>
    cases n with
    | zero => simp [flat]
    | succ n =>
      rw [List.take_succ_cons, flat_cons, flat_cons, List.take_append, ← ih n, List.take_of_length_le (by rw [hk, Nat.add_mul]; omega), hk, show (n + 1) * k - k = n * k by rw [Nat.add_mul]; omega]
theorem flat_one (h1 : ∀ x, ∀ v ∈ f x, v.oneCell' = true) (l : List α) : ∀ v ∈ flat f l, v.oneCell' = true := by
  intro v hv
  simp only [flat, List.mem_flatMap] at hv
  obtain ⟨x, _, hx⟩ := hv
  exact h1 x v hx

theorem flat_set (hk : ∀ x, (f x).length = k) (hpos : 0 < k) (l : List α) (p : Nat) (hp : p < l.length) (e : α) : putAt (flat f l).toArray (p * k) (f e) = (flat f (l.set p e)).toArray := by
  have hle : p * k + k ≤ l.length * k := by rw [← Nat.succ_mul]; exact Nat.mul_le_mul_right _ hp
  apply Array.ext_getElem?
  intro j
  rw [putAt_get (f e) (p * k) _ j (by rw [List.size_toArray, flat_length hk, hk]; exact hle), hk]
  have e2 : ∀ m : List α, (flat f m).toArray[j]? = (flat f m)[j]? := fun m => by simp
  rw [e2, e2]
  by_cases hj : j < l.length * k
  · have hd : j / k < l.length := (Nat.div_lt_iff_lt_mul hpos).2 hj
    have hmod : j % k < k := Nat.mod_lt _ hpos
    have hjj : j / k * k + j % k = j := by rw [Nat.mul_comm]; exact Nat.div_add_mod j k
    obtain ⟨x, hx⟩ : ∃ x, (l.set p e)[j / k]? = some x := ⟨_, List.getElem?_eq_getElem (by rw [List.length_set]; exact hd)⟩
    have hat := flat_get hk (l.set p e) (j / k) x hx (j % k) hmod
    rw [hjj] at hat
    rw [hat]
    by_cases hq : j / k = p
    · rw [hq] at hjj
      rw [hq, List.getElem?_set_self hp] at hx
      cases hx
      rw [if_pos (by omega), show j - p * k = j % k by omega]
    · have hne : ¬ (p * k ≤ j ∧ j < p * k + k) := by
        rintro ⟨h1, h2⟩
        apply hq
        have a1 : p ≤ j / k := (Nat.le_div_iff_mul_le hpos).2 h1
        have a2 : j / k < p + 1 := (Nat.div_lt_iff_lt_mul hpos).2 (by rw [Nat.succ_mul]; exact h2)
        omega
      rw [if_neg hne]
      rw [List.getElem?_set_ne (fun h => hq h.symm)] at hx
      have hat2 := flat_get hk l (j / k) x hx (j % k) hmod
      rw [hjj] at hat2
      exact hat2
  · rw [if_neg (by omega), List.getElem?_eq_none (by rw [flat_length hk]; omega), List.getElem?_eq_none (by rw [flat_length hk, List.length_set]; omega)]
theorem flat_part (hk : ∀ x, (f x).length = k) (l : List α) (p : Nat) (x : α) (hx : l[p]? = some x) : ((flat f l).toArray.extract (p * k) (p * k + (f x).length)).toList = f x := by
  apply List.ext_getElem?
  intro j
  rw [Array.toList_extract, List.extract_eq_take_drop, List.getElem?_take, hk]
  by_cases hj : j < k
  · rw [if_pos (by omega), List.getElem?_drop]
    exact flat_get hk l p x hx j hj
  · rw [if_neg (by omega), List.getElem?_eq_none (by rw [hk]; omega)]

/- A slice: its cells lie there, in a block from B on, or it has none. -/
def Li (f : α → List Value) (B : Nat) (a : Option Addr) (L : List α) (w : World) : Prop := L = [] ∨ ∃ b o, a = some ⟨b, o, none⟩ ∧ B ≤ b ∧ b < w.heap.size ∧ w.rangeAt b o (flat f L)

theorem Li.nil (B : Nat) (a : Option Addr) (w : World) : Li f B a [] w := .inl rfl
theorem Li.mono {B B' : Nat} {a : Option Addr} {L : List α} {w : World} (h : Li f B a L w) (hB : B' ≤ B) : Li f B' a L w := by
  rcases h with h | ⟨b, o, e, h1, h2⟩
  · exact .inl h
  · exact .inr ⟨b, o, e, Nat.le_trans hB h1, h2⟩
theorem range_block {b o : Nat} {cs : List Value} {w w' : World} (h : w.rangeAt b o cs) (hb : w'.heap[b]? = w.heap[b]?) : w'.rangeAt b o cs := fun j v hv => by
  rw [World.cell?_of_block (w := w) (w' := w') (a := ⟨b, o + j, none⟩) hb]
  exact h j v hv
theorem Li.below {B : Nat} {a : Option Addr} {L : List α} {w w' : World} (h : Li f B a L w) (hb : Below w.heap.size w w') : Li f B a L w' := by
  rcases h with h | ⟨b, o, rfl, hB, hlt, hr⟩
  · exact .inl h
  · exact .inr ⟨b, o, rfl, hB, Nat.lt_of_lt_of_le hlt hb.size, range_block hr (hb.block b hlt)⟩
theorem Li.kp {B : Nat} {S : List Nat} {a : Option Addr} {L : List α} {w w' : World} (h : Li f B a L w) (hb : Kp S w w') (hS : ∀ k ∈ S, k < B) : Li f B a L w' := by
  rcases h with h | ⟨b, o, rfl, hB, hlt, hr⟩
  · exact .inl h
  · exact .inr ⟨b, o, rfl, hB, Nat.lt_of_lt_of_le hlt hb.size, range_block hr (hb.block b hlt (fun hm => by have := hS b hm; omega))⟩
theorem Li.kept {B : Nat} {S : List Nat} {a : Option Addr} {L : List α} {w w' : World} (h : Li f B a L w) (hb : Kp S w w') (hS : ∀ b o, a = some ⟨b, o, none⟩ → b ∉ S) : Li f B a L w' := by
  rcases h with h | ⟨b, o, rfl, hB, hlt, hr⟩
  · exact .inl h
  · exact .inr ⟨b, o, rfl, hB, Nat.lt_of_lt_of_le hlt hb.size, range_block hr (hb.block b hlt (hS b o rfl))⟩
/- What was there when the call began stays where only what was made since is written. -/
theorem Li.old {a : Option Addr} {L : List α} {w w' : World} (h : Li f 0 a L w) (hb : Below w.heap.size w w') : Li f 0 a L w' := h.below hb

theorem range_part (hk : ∀ x, (f x).length = k) {b o : Nat} {L : List α} {w : World} (h : w.rangeAt b o (flat f L)) (i : Nat) (x : α) (hx : L[i]? = some x) : w.rangeAt b (o + i * k) (f x) := fun j v hv => by
  have hj : j < k := by rw [← hk x]; exact (List.getElem?_eq_some_iff.1 hv).1
  rw [Nat.add_assoc]
  exact h (i * k + j) v (by rw [flat_get hk L i x hx j hj]; exact hv)
theorem Li.at (hk : ∀ x, (f x).length = k) {B : Nat} {a : Option Addr} {L : List α} {w : World} (h : Li f B a L w) (i : Nat) (x : α) (hx : L[i]? = some x) : ∃ b o, a = some ⟨b, o, none⟩ ∧ B ≤ b ∧ b < w.heap.size ∧ w.rangeAt b (o + i * k) (f x) := by
  rcases h with rfl | ⟨b, o, rfl, hB, hlt, hr⟩
  · simp at hx
  · exact ⟨b, o, rfl, hB, hlt, range_part hk hr i x hx⟩
/- The slice without its first ones: at the place behind them. -/
theorem range_drop (hk : ∀ x, (f x).length = k) {b o : Nat} {L : List α} {w : World} (h : w.rangeAt b o (flat f L)) (n : Nat) (hn : n ≤ L.length) : w.rangeAt b (o + n * k) (flat f (L.drop n)) := fun j v hv => by
  rw [Nat.add_assoc]
  refine h (n * k + j) v ?_
  have e : flat f L = flat f (L.take n) ++ flat f (L.drop n) := by rw [← flat_append, List.take_append_drop]
  rw [e, List.getElem?_append_right (by rw [flat_length hk, List.length_take, Nat.min_eq_left hn]; omega), flat_length hk, List.length_take, Nat.min_eq_left hn, Nat.add_sub_cancel_left]
  exact hv

theorem Li.src {P : Program} (hk : ∀ x, (f x).length = k) (h1 : ∀ x, ∀ v ∈ f x, v.oneCell' = true) {t e' : TypeId} (ht : P.underlying t = some (.slice e')) {B : Nat} {a : Option Addr} {L : List α} {w : World} (h : Li f B a L w) (c : Nat) : Src P k t (.slice a L.length c) L.length (flat f L) w := by
  rcases h with rfl | ⟨b, o, rfl, _, _, hr⟩
  · cases a with
    | none => exact Src.ofNil w ht c
    | some a => exact Src.ofSlice w ht a 0 c [] (by simp) (fun j u hu => by simp at hu) (fun u hu => by simp at hu)
  · exact Src.ofSlice w ht _ _ c _ (flat_length hk L) (fun j u hu => by rw [Addr.add_mid]; exact hr j u hu) (flat_one h1 L)

/- A row that the call itself made, from its head on, with room for cap. -/
def Ow (f : α → List Value) (k : Nat) (T : TypeId) (g cap : Nat) (L : List α) (w : World) : Prop :=
  ∃ cur, Blk g cur T w ∧ L.length ≤ cap ∧ cap ≤ maxLen ∧ cur.size = cap * k ∧ cur.toList.take (L.length * k) = flat f L

theorem Ow.lt {T : TypeId} {g cap : Nat} {L : List α} {w : World} (h : Ow f k T g cap L w) : g < w.heap.size := by obtain ⟨_, h, _⟩ := h; exact h.lt
theorem Ow.cap {T : TypeId} {g cap : Nat} {L : List α} {w : World} (h : Ow f k T g cap L w) : L.length ≤ cap := by obtain ⟨_, _, h, _⟩ := h; exact h
theorem Ow.below {T : TypeId} {g cap : Nat} {L : List α} {w w' : World} (h : Ow f k T g cap L w) (hb : Below w.heap.size w w') : Ow f k T g cap L w' := by
  obtain ⟨c, h0, h1⟩ := h; exact ⟨c, h0.below hb, h1⟩
theorem Ow.kp {T : TypeId} {S : List Nat} {g cap : Nat} {L : List α} {w w' : World} (h : Ow f k T g cap L w) (hb : Kp S w w') (hg : g ∉ S) : Ow f k T g cap L w' := by
  obtain ⟨c, h0, h1⟩ := h; exact ⟨c, h0.kp hb hg, h1⟩
theorem Ow.empty {T : TypeId} {g : Nat} {w : World} (h : Blk g #[] T w) : Ow f k T g 0 [] w := ⟨#[], h, Nat.le_refl _, Nat.zero_le _, by simp, by simp [flat]⟩
theorem Ow.li {T : TypeId} {B g cap : Nat} {L : List α} {w : World} (h : Ow f k T g cap L w) (hB : B ≤ g) : Li f B (some ⟨g, 0, none⟩) L w := by
  obtain ⟨c, h0, _, _, _, h4⟩ := h
  refine .inr ⟨g, 0, rfl, hB, h0.lt, fun j v hv => ?_⟩
  rw [cell_of_row w g (0 + j) c T (0, 0) h0, Nat.zero_add]
  rw [← h4, List.getElem?_take] at hv
  split at hv
  · simpa using hv
  · cases hv

theorem run_append_ow {P : Program} (hk : ∀ x, (f x).length = k) {t T : TypeId} (ty : TypeId) (ht : P.underlying t = some (.slice T)) {i : TypeInfo} {z : Value} {bytes : Nat} (hi : P.info? T = some i) (hz : i.zero = some z) (hs : i.size = k) (hby : i.bytes = bytes) (hzs : z.cells.size = k)
    {g cap : Nat} {L : List α} {w : World} (h : Ow f k T g cap L w) {x : Value} {M : List α} (hx : Src P k t x M.length (flat f M) w) (hb : (L.length + M.length) * bytes ≤ 140737488355328) (h63 : L.length + M.length ≤ maxLen) :
    ∃ g' cap' w', (Builtin.append_ #[t, t] ty #[.slice (some ⟨g, 0, none⟩) L.length cap, x]).run P w = .ok (.slice (some ⟨g', 0, none⟩) (L ++ M).length cap') w' ∧ Ow f k T g' cap' (L ++ M) w' ∧ Kp [g] w w' ∧ (g' = g ∨ w.heap.size ≤ g') := by
  subst hs
  subst hby
  obtain ⟨cur, h0, hlc, hcm, hcs, htk⟩ := h
  have hsmall : L.length + M.length ≤ 9223372036854775807 := by simp only [maxLen] at h63; omega
  by_cases hroom : L.length + M.length ≤ cap
  · have hle : L.length * i.size + M.length * i.size ≤ cur.size := by rw [hcs, ← Nat.add_mul]; exact Nat.mul_le_mul_right _ hroom
    have hth := h0.there (L.length * i.size) (M.length * i.size) hle
    have hr := run_append_room_src (P := P) w t t ty T i ht hi g 0 L.length cap x M.length (flat f M) hx hroom (fun j hj => by rw [flat_length hk] at hj; simpa using (hth j hj).1) (fun j hj => by rw [flat_length hk] at hj; simpa using (hth j hj).2)
    rw [Nat.zero_add] at hr
    refine ⟨g, cap, _, by rw [List.length_append]; exact hr, ⟨_, h0.setCells (flat f M) (L.length * i.size), by rw [List.length_append]; exact hroom, hcm, by rw [putAt_size]; exact hcs, ?_⟩, Kp.setCells g (by simp) _ _ w, .inl rfl⟩
    apply List.ext_getElem?
    intro j
    rw [List.getElem?_take, flat_append, List.length_append, Nat.add_mul]
    have hg := putAt_get (flat f M) (L.length * i.size) cur j (by rw [flat_length hk]; exact hle)
    rw [Array.getElem?_toList, hg, flat_length hk]
    by_cases h1 : j < L.length * i.size
    · rw [if_pos (by omega), if_neg (by omega), List.getElem?_append_left (by rw [flat_length hk]; exact h1), ← htk, List.getElem?_take, if_pos h1, Array.getElem?_toList]
    · by_cases h2 : j < L.length * i.size + M.length * i.size
      · rw [if_pos h2, if_pos (by omega), List.getElem?_append_right (by rw [flat_length hk]; omega), flat_length hk]
      · rw [if_neg h2, List.getElem?_eq_none (by rw [List.length_append, flat_length hk, flat_length hk]; omega)]
  · have hold := run_firstCells_some (P := P) w.drew i.size L.length ⟨g, 0, none⟩ L.length cap (flat f L) (flat_length hk L) (fun j u hu => by
      rw [Addr.add_mid, Nat.zero_add]
      have : w.cell? ⟨g, j, none⟩ = some u := by
        rw [cell_of_row w g j cur T (0, 0) h0]
        rw [← htk, List.getElem?_take] at hu
        split at hu
        · simpa using hu
        · cases hu
      exact this)
    have hr := run_append_grow_src (P := P) w t t ty T i z ht hi hz (some ⟨g, 0, none⟩) L.length cap (flat f L) hold x M.length (flat f M) hx (by omega) (by omega) (growslice_fits (by omega) hb)
    have hge := grownCap_ge w (L.length + M.length) cap T
    refine ⟨w.heap.size, _, _, by rw [List.length_append]; exact hr, ⟨_, heap_alloc_new w.drew _, by rw [List.length_append]; exact hge, grownCap_le_maxLen w _ _ _ h63, ?_, ?_⟩, (Kp.drew _ w).trans (Kp.alloc _ _ _), .inr (Nat.le_refl _)⟩
    · simp only [Array.size_append, List.size_toArray, size_zeroCells, hzs, List.length_append, flat_length hk, ← Nat.add_mul]
      congr 1
      omega
    · rw [Array.toList_append, List.take_append_of_le_length (by simp [flat_length hk, Nat.add_mul])]
      simp only [List.length_append]
      rw [← flat_append, List.take_of_length_le]
      rw [flat_length hk, List.length_append]
      exact Nat.le_refl _

theorem append_ow {P : Program} (hk : ∀ x, (f x).length = k) {ops : Array Oper} {rest : List Oper} {o : Oper} {a : Act} {Q : Exit → Act → World → Prop} (hgd : o.guard = none) (s y : Operand) {t T : TypeId} (ho : o.op = .call { callee := .builtin .append, args := #[s, y], argTypes := #[t, t] })
    (ht : P.underlying t = some (.slice T)) {i : TypeInfo} {z : Value} {bytes : Nat} (hi : P.info? T = some i) (hz : i.zero = some z) (hs : i.size = k) (hby : i.bytes = bytes) (hzs : z.cells.size = k)
    {g cap : Nat} {L : List α} {w : World} (h : Ow f k T g cap L w) (he : a.eval s = .slice (some ⟨g, 0, none⟩) L.length cap) {x : Value} {M : List α} (hx : Src P k t x M.length (flat f M) w) (hey : a.eval y = x) (hb : (L.length + M.length) * bytes ≤ 140737488355328) (h63 : L.length + M.length ≤ maxLen)
    (hK : ∀ g' cap' w', Ow f k T g' cap' (L ++ M) w' → Kp [g] w w' → (g' = g ∨ w.heap.size ≤ g') → wpList P ops Q rest (a.put o.dst (.slice (some ⟨g', 0, none⟩) (L ++ M).length cap')) w') : wpList P ops Q (o :: rest) a w := by
  refine wpList_plain hgd fun K hK' => ?_
  obtain ⟨g', cap', w', hr, h1, h2, h3⟩ := run_append_ow (P := P) hk o.type ht hi hz hs hby hzs h hx hb h63
  have hk2 := hK' _ _ (hK g' cap' w' h1 h2 h3)
  unfold Oper.wp execOp
  simp only [ho, resolve, invoke, builtin, Sem.run_bind, Sem.run_pure, Result.andThen_ok, List.map_toArray, List.map_cons, List.map_nil, he, hey, hr]
  exact hk2

theorem flat_made (hk : ∀ x, (f x).length = k) (hpos : 0 < k) (e : α) (n : Nat) : madeCells (f e).toArray (n * k) = (flat f (List.replicate n e)).toArray := by
  apply Array.ext_getElem?
  intro j
  by_cases hj : j < n * k
  · have hd : j / k < n := (Nat.div_lt_iff_lt_mul hpos).2 hj
    have hmod : j % k < k := Nat.mod_lt _ hpos
    have hat := flat_get hk (List.replicate n e) (j / k) e (by simp [hd]) (j % k) hmod
    have hjj : j / k * k + j % k = j := by rw [Nat.mul_comm]; exact Nat.div_add_mod j k
    rw [hjj] at hat
    have e2 : (flat f (List.replicate n e)).toArray[j]? = (flat f (List.replicate n e))[j]? := by simp
    rw [e2, hat, madeCells]
    simp [hj, hk, hmod]
  · rw [Array.getElem?_eq_none (by rw [size_madeCells]; omega), Array.getElem?_eq_none (by rw [List.size_toArray, flat_length hk, List.length_replicate]; omega)]

theorem make_li {P : Program} (hk : ∀ x, (f x).length = k) (hpos : 0 < k) (e : α) {ops : Array Oper} {rest : List Oper} {o : Oper} {a : Act} {Q : Exit → Act → World → Prop} (hgd : o.guard = none) (l c : Operand) {t T : TypeId} (ho : o.op = .makeSlice t l c)
    (ht : P.underlying t = some (.slice T)) {i : TypeInfo} {z : Value} {bytes : Nat} (hi : P.info? T = some i) (hz : i.zero = some z) (hs : i.size = k) (hby : i.bytes = bytes) (hzc : z.cells = (f e).toArray)
    {kl kc : IntKind} (n : Nat) (hl : a.eval l = .int kl (n : Int)) (hc : a.eval c = .int kc (n : Int)) (hb : bytes * n ≤ 281474976710656) (h63 : n ≤ maxLen) {w : World}
    (hK : wpList P ops Q rest (a.put o.dst (.slice (some ⟨w.heap.size, 0, none⟩) n n)) (w.alloc (.cells (flat f (List.replicate n e)).toArray T))) : wpList P ops Q (o :: rest) a w := by
  refine wpList_plain hgd fun K hK' => ?_
  subst hs
  subst hby
  have hr := run_make (P := P) w t T i z ht hi hz kl kc (n : Int) (n : Int) (by omega) (by omega) (by rw [← Int.natCast_mul]; omega) (by have h9 : maxLen = 9223372036854775807 := rfl; omega)
  rw [hzc, Int.toNat_natCast, flat_made hk hpos e n] at hr
  unfold Oper.wp
  simp [execOp, ho, hl, hc, hr, Result.andThen]
  exact hK' _ _ hK

theorem clear_li {P : Program} (hk : ∀ x, (f x).length = k) (hpos : 0 < k) (h1 : ∀ x, ∀ v ∈ f x, v.oneCell' = true) (e : α) {ops : Array Oper} {rest : List Oper} {o : Oper} {a : Act} {Q : Exit → Act → World → Prop} (hgd : o.guard = none) (s : Operand) {t T : TypeId} (ho : o.op = .call { callee := .builtin .clear, args := #[s], argTypes := #[t] })
    (ht : P.underlying t = some (.slice T)) {z : Value} (hv : ∀ w, (zeroValue T).run P w = .ok z w) (hzc : z.cells = (f e).toArray) {G n c : Nat} {C : Array Value} {w : World} (hG : Blk G C T w) (hs : C.size = n * k) (he : a.eval s = .slice (some ⟨G, 0, none⟩) n c)
    (hK : ∀ W, Blk G (flat f (List.replicate n e)).toArray T W → Kp [G] w W → wpList P ops Q rest (a.put o.dst (.tuple #[])) W) : wpList P ops Q (o :: rest) a w := by
  refine wpList_plain hgd fun K hK' => ?_
  have hr : (Builtin.clear_ #[t] o.type #[.slice (some ⟨G, 0, none⟩) n c]).run P w = .ok (.tuple #[]) (w.setCells G 0 (flat f (List.replicate n e))) := by
    rcases Nat.eq_zero_or_pos n with rfl | hn
    · simp [Builtin.clear_, run_underlying ht, flat, World.setCells]
    · have hth := hG.there 0 (n * k) (by omega)
      have hlen : (flat f (List.replicate n e)).length = n * k := by rw [flat_length hk, List.length_replicate]
      have hst := run_storeCells_cells (P := P) G 0 (flat f (List.replicate n e)) 0 w (fun j hj => by simpa using (hth j (by omega)).1) (fun j hj => by simpa using (hth j (by omega)).2) (flat_one h1 _)
      simp only [Nat.add_zero] at hst
      have hzz : (Builtin.zeroCells z.cells n).toList = flat f (List.replicate n e) := by
        have := flat_made hk hpos e n
        rw [hzc]
        have e2 : Builtin.zeroCells (f e).toArray n = madeCells (f e).toArray (n * k) := by rw [← hk e]; rfl
        rw [e2, this]
      obtain ⟨m, rfl⟩ : ∃ m, n = m + 1 := ⟨n - 1, by omega⟩
      simp [Builtin.clear_, run_underlying ht, hv, hzz, hst]
  have hB := hG.setCells (flat f (List.replicate n e)) 0
  have e3 : flat f (List.replicate n e) = (flat f (List.replicate n e)).toArray.toList := rfl
  rw [e3, putAt_all _ _ (by rw [hs, List.size_toArray, flat_length hk, List.length_replicate])] at hB
  have hk2 := hK' _ _ (hK _ hB (Kp.setCells G (by simp) _ _ w))
  unfold Oper.wp execOp
  simp only [ho, resolve, invoke, builtin, Sem.run_bind, Sem.run_pure, Result.andThen_ok, List.map_toArray, List.map_cons, List.map_nil, he, hr]
  exact hk2

/- 'l[1:]': the slice without its first one. -/
theorem cut_first {P : Program} (hk : ∀ x, (f x).length = k) {ops : Array Oper} {rest : List Oper} {op : Oper} {a : Act} {Q : Exit → Act → World → Prop} (hgd : op.guard = none) (x y : Operand) {t T : TypeId} (ho : op.op = .slice t x (some y) none none)
    (ht : P.underlying t = some (.slice (P.elem t))) (hT : P.elem t = T) (hsz : ∀ w, (sizeOf T).run P w = .ok k w) {B : Nat} {ad : Option Addr} {e : α} {M : List α} {c : Nat} {w : World} (h : Li f B ad (e :: M) w) (hc : (e :: M).length ≤ c) (hx : a.eval x = .slice ad (M.length + 1) c) (hy : a.eval y = .int .i64 1)
    (hK : ∀ ad', Li f B ad' M w → wpList P ops Q rest (a.put op.dst (.slice ad' M.length (c - 1))) w) : wpList P ops Q (op :: rest) a w := by
  refine wpList_plain hgd fun K hK' => ?_
  simp only [List.length_cons] at hc
  have hr : (Instr.slice t (.slice ad (M.length + 1) c) (some (.int .i64 1)) none none).run P w = .ok (.slice (if c = 1 then ad else ad.map (·.add (1 * k))) M.length (c - 1)) w := by
    rw [run_slice_l w t ad (M.length + 1) c ht .i64 1 (by decide) (by omega), hT, hsz w]
    simp [Result.andThen, sliced]
  have hL : Li f B (if c = 1 then ad else ad.map (·.add (1 * k))) M w := by
    by_cases h1 : c = 1
    · have : M = [] := List.length_eq_zero_iff.1 (by omega)
      subst this
      exact Li.nil _ _ _
    · rw [if_neg h1]
      rcases h with h | ⟨b, o, rfl, hB, hlt, hr⟩
      · cases h
      · have := range_drop hk hr 1 (by simp)
        exact .inr ⟨b, o + 1 * k, by simp [Addr.add_mid], hB, hlt, this⟩
  have hk2 := hK' _ _ (hK _ hL)
  unfold Oper.wp execOp
  simp only [ho, Option.map_some, Option.map_none, hx, hy, Sem.run_bind, run_sliceAt_slice _ _ _ _ _ _ ht, hr, Result.andThen_ok, Sem.run_pure]
  exact hk2

/- One element, laid in a block of its own ahead of an append. -/
theorem li_box (w : World) (x : α) (T : TypeId) (B : Nat) (hB : B ≤ w.heap.size) : Li f B (some ⟨w.heap.size, 0, none⟩) [x] (w.alloc (.cells (f x).toArray T)) := by
  refine .inr ⟨w.heap.size, 0, rfl, hB, by simp, ?_⟩
  have := (blk_new w (f x).toArray T).whole
  simpa [flat] using this

end

section
variable {α : Type} {f : α → List Value} {k : Nat} {P : Program} {H : Type} {enc : TypeId × Value → H} {W : World} {base : Nat} {spare : Nat → Bool} {held : Bool}

/- A slice as an argument: a list of its elements, each read by its own law. -/
theorem open_li (e0 : α) (hk : ∀ x, (f x).length = k) (hpos : 0 < k) {TS T : TypeId} (hu : P.underlying TS = some (.slice T)) (hC : P.cellsOf T = k) (hel : ∀ {cs : List Value} {fuel : Nat} {x : DataW H × List MemPlace}, DataW.trod enc P W base spare held fuel T cs = some x → ∃ e : α, cs = f e)
    {v : Value} {d : DataW H} {p : List MemPlace} (hv : ∃ a n c, v = .slice a n c) (h : DataW.Trod enc P W base spare held TS v d p) :
    ∃ (a : Option Addr) (L : List α) (c : Nat), v = .slice a L.length c ∧ L.length ≤ maxLen ∧ Li f 0 a L W := by
  obtain ⟨a0, n0, c0, rfl⟩ := hv
  obtain ⟨fuel, hf⟩ := h
  rcases Go.Deep.open_slice hu hf with ⟨hc, _⟩ | ⟨a, len, cap, m, n, D, Pl, hcs, _, hlc, hcm, hm, _, hcell⟩
  · simp [Value.cells] at hc
    obtain ⟨rfl, rfl, rfl⟩ := hc
    exact ⟨none, [], 0, rfl, Nat.zero_le _, .inl rfl⟩
  · simp [Value.cells] at hcs
    obtain ⟨rfl, rfl, rfl⟩ := hcs
    rw [hC] at hcell
    have hlm : n0 ≤ m := by rw [hm]; split <;> omega
    have key : ∀ i, ∃ e : α, i < n0 → ∃ cs', W.cells? base (a.add (i * k)) k = some cs' ∧ cs' = f e := by
      intro i
      by_cases hi : i < n0
      · obtain ⟨cs', h1, h2⟩ := hcell i (by omega)
        obtain ⟨e, he⟩ := hel h2
        exact ⟨e, fun _ => ⟨cs', h1, he⟩⟩
      · exact ⟨e0, fun h => absurd h hi⟩
    obtain ⟨E, hE⟩ := Classical.axiomOfChoice key
    refine ⟨some a, (List.range n0).map E, c0, by simp, by simp; omega, ?_⟩
    by_cases h0 : n0 = 0
    · subst h0; exact .inl rfl
    · have hget : ∀ i r, i < n0 → r < k → W.cell? ((a.add (i * k)).add r) = (f (E i))[r]? := by
        intro i r hi hr
        obtain ⟨cs', h1, rfl⟩ := hE i hi
        unfold World.cells? at h1
        split at h1
        · exact mapM_some_get h1 r r (by simp [hr])
        · cases h1
      have h0' := hget 0 0 (by omega) hpos
      obtain ⟨v0, hv0⟩ : ∃ v0, (f (E 0))[0]? = some v0 := ⟨_, List.getElem?_eq_getElem (by rw [hk]; exact hpos)⟩
      obtain ⟨b, o, s⟩ := a
      cases s with
      | some q =>
        rw [hv0] at h0'
        simp [World.cell?, Addr.add] at h0'
        split at h0' <;> simp_all
      | none =>
      have hfirst : W.cell? ⟨b, o, none⟩ = some v0 := by
        rw [Addr.add_mid, Addr.add_mid, hv0] at h0'
        simpa using h0'
      refine .inr ⟨b, o, rfl, Nat.zero_le _, block_lt_of_cell hfirst, fun j v hv => ?_⟩
      have hj : j < n0 * k := by
        have h := (List.getElem?_eq_some_iff.1 hv).1
        rw [flat_length hk] at h
        simpa using h
      have hd : j / k < n0 := (Nat.div_lt_iff_lt_mul hpos).2 hj
      have hmod : j % k < k := Nat.mod_lt _ hpos
      have hat := flat_get hk ((List.range n0).map E) (j / k) (E (j / k)) (by simp [hd]) (j % k) hmod
      have hjj : j / k * k + j % k = j := by rw [Nat.mul_comm]; exact Nat.div_add_mod j k
      rw [hjj] at hat
      have h := hget (j / k) (j % k) hd hmod
      rw [Addr.add_mid, Addr.add_mid] at h
      rw [show o + j = o + j / k * k + j % k by omega, h, ← hat]
      exact hv

end

section
variable {H : Type} {enc : TypeId × Value → H} {W W' : World}

theorem laidOut : laidOutB Try.prog = true := by kernel_rfl

theorem stays_all {P : Program} (hl : laidOutB P = true) (hb : Below W.heap.size W W') : ∀ {ts : List TypeId} {vs : List Value} {ds : List (DataW H)} {ps : List MemPlace}, (ts.all fun t => P.readableRec t && decide (t < P.types.size)) = true →
    DataW.TrodAll enc P W 0 (fun _ => true) true ts vs ds ps → DataW.TrodAll enc P W' 0 (fun b => decide (b < W.heap.size)) true ts vs ds ps
  | [], [], [], _, _, h => h
  | [], [], _ :: _, _, _, h => h.elim
  | [], _ :: _, _, _, _, h => h.elim
  | _ :: _, [], _, _, _, h => h.elim
  | _ :: _, _ :: _, [], _, _, h => h.elim
  | t :: ts, v :: vs, d :: ds, ps, hr, h => by
    have hlt := h.lt
    obtain ⟨p, q, ⟨fuel, h4⟩, hs, e⟩ := h
    simp only [List.all_cons, Bool.and_eq_true, decide_eq_true_eq] at hr
    have hp : ∀ x ∈ p, x.block < W.heap.size := fun x hx => hlt x (by rw [e]; simp [hx])
    exact ⟨p, q, ⟨fuel, DataW.trod_stays (kids_book hl hr.1.1) (book_sized hr.1.1) (fun h => by cases h) ⟨hr.1.2, book_self t⟩ h4 (fun x hx => hb.same (hp x hx)) (fun x hx => by simpa using hp x hx)⟩,
      stays_all hl hb (by simpa using hr.2) hs, e⟩

end

end Go.Proofs.Ytmnpbjaofemelaa
