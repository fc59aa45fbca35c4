/-
  Append to a list of one's own, with where the new row lies; a list away from a block that is written.
  No condition.
-/
import Derived.Test.YtehmcncclpimjaaDoorLk
namespace Go.Proofs.YtehmcncclpimjaaDoor
set_option maxRecDepth 10000
open Go.RowKit Go.Sort

theorem append_ln {α : Type} {f : α → List Value} {k : Nat} {P : Program} (hk : ∀ x, (f x).length = k) {ops : Array Oper} {rest : List Oper} {o : Oper} {a : Act} {Q : Exit → Act → World → Prop} (hgd : o.guard = none) (s y : Operand) {t T : TypeId} (ho : o.op = .call { callee := .builtin .append, args := #[s, y], argTypes := #[t, t] })
    (ht : P.underlying t = some (.slice T)) {i : TypeInfo} {z : Value} {bytes : Nat} (hi : P.info? T = some i) (hz : i.zero = some z) (hs : i.size = k) (hby : i.bytes = bytes) (hzs : z.cells.size = k)
    {B : Nat} {ad : Option Addr} {cap : Nat} {L : List α} {w : World} (h : Lg f k T B ad cap L w) (hB : B ≤ w.heap.size) {n : Nat} (hn : L.length = n) (he : a.eval s = .slice ad n cap) {x : Value} {M : List α} (hM : 0 < M.length) (hx : Src P k t x M.length (flat f M) w) (hey : a.eval y = x) (hb : (n + M.length) * bytes ≤ 140737488355328) (h63 : n + M.length ≤ maxLen)
    (hK : ∀ ad' cap' w', Lg f k T B ad' cap' (L ++ M) w' → Kp (blkOf ad) w w' → (∀ A ∈ blkOf ad', A ∈ blkOf ad ∨ w.heap.size ≤ A) → wpList P ops Q rest (a.put o.dst (.slice ad' (n + M.length) cap')) w') : wpList P ops Q (o :: rest) a w := by
  subst hn
  refine wpList_plain hgd fun K hK' => ?_
  obtain ⟨ad', cap', w', hr, h1, h2, g, e, h3⟩ := run_append_lk (P := P) hk o.type ht hi hz hs hby hzs h hB hM hx hb h63
  have hk2 := hK' _ _ (hK ad' cap' w' h1 h2 (fun A hA => by
    rcases h3 with h3 | h3
    · rw [h3] at hA; exact .inl hA
    · rw [e] at hA; simp [blkOf] at hA; subst hA; exact .inr h3))
  unfold Oper.wp execOp
  simp only [ho, resolve, invoke, builtin, Sem.run_bind, Sem.run_pure, Result.andThen_ok, List.map_toArray, List.map_cons, List.map_nil, he, hey, hr]
  exact hk2
theorem Lg.away {α : Type} {f : α → List Value} {k : Nat} {T : TypeId} {A B : Nat} {a : Option Addr} {c : Nat} {L : List α} {w w' : World} (h : Lg f k T B a c L w) (hk : Kp [A] w w') (hA : A ∉ blkOf a) : Lg f k T B a c L w' := by
  rcases h with h | ⟨g, e, hB, h⟩
  · exact .inl h
  · exact .inr ⟨g, e, hB, h.kp hk (fun hm => hA (by simp at hm; subst hm; rw [e]; simp [blkOf]))⟩

end Go.Proofs.YtehmcncclpimjaaDoor
