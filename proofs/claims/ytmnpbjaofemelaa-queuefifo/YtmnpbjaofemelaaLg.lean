/-
  A list that a call itself makes by append, from the nil slice or from an empty one on.
  No condition.
-/
import Derived.Test.YtmnpbjaofemelaaLi
import Derived.Test.YtmnpbjaofemelaaHd
namespace Go.Proofs.Ytmnpbjaofemelaa
set_option maxRecDepth 10000
open Go.RowKit Go.Sort

section
variable {α : Type} {f : α → List Value} {k : Nat}

theorem li_whole {B g : Nat} {L : List α} {T : TypeId} {w : World} (h : Blk g (flat f L).toArray T w) (hB : B ≤ g) : Li f B (some ⟨g, 0, none⟩) L w :=
  .inr ⟨g, 0, rfl, hB, h.lt, by simpa using h.whole⟩

/- Nil, or a row that was made since there were B blocks. -/
def Lg (f : α → List Value) (k : Nat) (T : TypeId) (B : Nat) (a : Option Addr) (cap : Nat) (L : List α) (w : World) : Prop :=
  (a = none ∧ cap = 0 ∧ L = []) ∨ ∃ g, a = some ⟨g, 0, none⟩ ∧ B ≤ g ∧ Ow f k T g cap L w

theorem Lg.none (T : TypeId) (B : Nat) (w : World) : Lg f k T B none 0 [] w := .inl ⟨rfl, rfl, rfl⟩
theorem Lg.of {T : TypeId} {B g cap : Nat} {L : List α} {w : World} (h : Ow f k T g cap L w) (hB : B ≤ g) : Lg f k T B (some ⟨g, 0, .none⟩) cap L w := .inr ⟨g, rfl, hB, h⟩
theorem Lg.li {T : TypeId} {B : Nat} {a : Option Addr} {cap : Nat} {L : List α} {w : World} (h : Lg f k T B a cap L w) : Li f B a L w := by
  rcases h with ⟨_, _, rfl⟩ | ⟨g, rfl, hB, h⟩
  · exact Li.nil _ _ _
  · exact h.li hB
theorem Lg.below {T : TypeId} {B : Nat} {a : Option Addr} {cap : Nat} {L : List α} {w w' : World} (h : Lg f k T B a cap L w) (hb : Below w.heap.size w w') : Lg f k T B a cap L w' := by
  rcases h with h | ⟨g, e, hB, h⟩
  · exact .inl h
  · exact .inr ⟨g, e, hB, h.below hb⟩
theorem Lg.kp {T : TypeId} {B : Nat} {S : List Nat} {a : Option Addr} {cap : Nat} {L : List α} {w w' : World} (h : Lg f k T B a cap L w) (hb : Kp S w w') (hS : ∀ k ∈ S, k < B) : Lg f k T B a cap L w' := by
  rcases h with h | ⟨g, e, hB, h⟩
  · exact .inl h
  · exact .inr ⟨g, e, hB, h.kp hb (fun hm => by have := hS g hm; omega)⟩
theorem Lg.cap {T : TypeId} {B : Nat} {a : Option Addr} {cap : Nat} {L : List α} {w : World} (h : Lg f k T B a cap L w) : L.length ≤ cap := by
  rcases h with ⟨_, _, rfl⟩ | ⟨g, e, hB, h⟩
  · exact Nat.zero_le _
  · exact h.cap

theorem run_append_nil {P : Program} (hk : ∀ x, (f x).length = k) {t T : TypeId} (ty : TypeId) (ht : P.underlying t = some (.slice T)) {i : TypeInfo} {z : Value} {bytes : Nat} (hi : P.info? T = some i) (hz : i.zero = some z) (hs : i.size = k) (hby : i.bytes = bytes) (hzs : z.cells.size = k)
    {w : World} {x : Value} {M : List α} (hx : Src P k t x M.length (flat f M) w) (hM : 0 < M.length) (hb : M.length * bytes ≤ 140737488355328) (h63 : M.length ≤ maxLen) :
    ∃ cap' w', (Builtin.append_ #[t, t] ty #[.slice none 0 0, x]).run P w = .ok (.slice (some ⟨w.heap.size, 0, none⟩) M.length cap') w' ∧ Ow f k T w.heap.size cap' M w' ∧ Below w.heap.size w w' := by
  subst hs
  subst hby
  have hsmall : M.length ≤ 9223372036854775807 := by simp only [maxLen] at h63; omega
  have hold := run_firstCells_none (P := P) w.drew i.size 0 0 0
  have hr := run_append_grow_src (P := P) w t t ty T i z ht hi hz none 0 0 [] hold x M.length (flat f M) hx (by omega) (by omega) (growslice_fits (by omega) (by rw [Nat.zero_add]; exact hb))
  rw [Nat.zero_add, List.nil_append] at hr
  have hge := grownCap_ge w M.length 0 T
  refine ⟨_, _, hr, ⟨_, heap_alloc_new w.drew _, hge, grownCap_le_maxLen w _ _ _ h63, ?_, ?_⟩, ((Below.refl _ _).drew).alloc (Nat.le_refl _) _⟩
  · simp only [Array.size_append, List.size_toArray, size_zeroCells, hzs, flat_length hk, ← Nat.add_mul]
    congr 1
    omega
  · rw [Array.toList_append, List.take_append_of_le_length (by simp [flat_length hk])]
    rw [List.take_of_length_le]
    show (flat f M).length ≤ _
    rw [flat_length hk]
    exact Nat.le_refl _

theorem append_lg {P : Program} (hk : ∀ x, (f x).length = k) {ops : Array Oper} {rest : List Oper} {o : Oper} {a : Act} {Q : Exit → Act → World → Prop} (hgd : o.guard = none) (s y : Operand) {t T : TypeId} (ho : o.op = .call { callee := .builtin .append, args := #[s, y], argTypes := #[t, t] })
    (ht : P.underlying t = some (.slice T)) {i : TypeInfo} {z : Value} {bytes : Nat} (hi : P.info? T = some i) (hz : i.zero = some z) (hs : i.size = k) (hby : i.bytes = bytes) (hzs : z.cells.size = k)
    {B : Nat} {ad : Option Addr} {cap : Nat} {L : List α} {w : World} (h : Lg f k T B ad cap L w) (hB : B ≤ w.heap.size) {n : Nat} (hn : L.length = n) (he : a.eval s = .slice ad n cap) {x : Value} {M : List α} (hM : 0 < M.length) (hx : Src P k t x M.length (flat f M) w) (hey : a.eval y = x) (hb : (n + M.length) * bytes ≤ 140737488355328) (h63 : n + M.length ≤ maxLen)
    (hK : ∀ ad' cap' w', Lg f k T B ad' cap' (L ++ M) w' → Below B w w' → wpList P ops Q rest (a.put o.dst (.slice ad' (n + M.length) cap')) w') : wpList P ops Q (o :: rest) a w := by
  subst hn
  refine wpList_plain hgd fun K hK' => ?_
  have key : ∃ ad' cap' w', (Builtin.append_ #[t, t] o.type #[.slice ad L.length cap, x]).run P w = .ok (.slice ad' (L.length + M.length) cap') w' ∧ Lg f k T B ad' cap' (L ++ M) w' ∧ Below B w w' := by
    rcases h with ⟨rfl, rfl, rfl⟩ | ⟨g, rfl, hBg, h⟩
    · obtain ⟨cap', w', hr, h1, h2⟩ := run_append_nil (P := P) hk o.type ht hi hz hs hby hzs hx hM (by simpa using hb) (by simpa using h63)
      exact ⟨_, cap', w', by simpa using hr, by simpa using Lg.of h1 hB, h2.mono hB⟩
    · obtain ⟨g', cap', w', hr, h1, h2, h3⟩ := run_append_ow (P := P) hk o.type ht hi hz hs hby hzs h hx hb h63
      refine ⟨_, cap', w', by rw [← List.length_append]; exact hr, Lg.of h1 (by rcases h3 with rfl | h3 <;> omega), h2.below (by simp; exact hBg) hB⟩
  obtain ⟨ad', cap', w', hr, h1, h2⟩ := key
  have hk2 := hK' _ _ (hK ad' cap' w' h1 h2)
  unfold Oper.wp execOp
  simp only [ho, resolve, invoke, builtin, Sem.run_bind, Sem.run_pure, Result.andThen_ok, List.map_toArray, List.map_cons, List.map_nil, he, hey, hr]
  exact hk2

end

end Go.Proofs.Ytmnpbjaofemelaa
