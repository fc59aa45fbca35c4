/-
  More steps of a region that draws its order: a load of one cell or of a part, append with where the new row lies; results of which the first lies in a variable.
  No condition.
-/
import Derived.Test.YtmnpbjaofemelaaLk
namespace Go.Proofs.Ytmnpbjaofemelaa
set_option maxRecDepth 10000
open Go.RowKit Go.Sort

theorem wp_load_cell {P : Program} {op : Oper} {a : Act} {w : World} {K : Act → World → Prop} {Q : Exit → Act → World → Prop} (ty : TypeId) (x : Operand) (ho : op.op = .load ty x) {B off : Nat} (v : Value) (hx : a.eval x = .pointer (some ⟨B, off, none⟩)) (hc : w.cell? ⟨B, off, none⟩ = some v) {d : TypeDesc} (hu : P.underlying ty = some d) (hd : d.isRow = false)
    (h : K (a.put op.dst v) w) : op.wp P a w K Q := by
  have hagg : (isAgg ty).run P w = .ok false w := by
    unfold isAgg
    rw [Sem.run_bind, run_underlying hu w]
    cases d <;> simp_all
  have hl : (load ⟨B, off, none⟩).run P w = .ok v w := by simp [go_sem, hc]
  unfold Oper.wp execOp
  simp only [ho, hx, Instr.loadAt, Instr.sureAddr, loadVar, Sem.run_bind, Sem.run_pure, Result.andThen_ok, hagg, Bool.false_eq_true, if_false, hl]
  exact h
theorem wp_load_part {P : Program} {op : Oper} {a : Act} {w : World} {K : Act → World → Prop} {Q : Exit → Act → World → Prop} (ty : TypeId) (x : Operand) (ho : op.op = .load ty x) {B o : Nat} {C : Array Value} {T : TypeId} (hB : Blk B C T w) (hx : a.eval x = .pointer (some ⟨B, o, none⟩)) (cs : List Value) (hcs : (C.extract o (o + cs.length)).toList = cs) {d : TypeDesc} (hu : P.underlying ty = some d) (hd : d.isRow = true) (hi : (P.info? ty).map (·.size) = some cs.length)
    (h : K (a.put op.dst (.agg cs.toArray)) w) : op.wp P a w K Q :=
  wp_load_mid ty x ho B o hx cs d (hB.range o cs hcs) hu hd hi h

section
variable {α : Type} {f : α → List Value} {k : Nat}

theorem wp_append_ln {P : Program} (hk : ∀ x, (f x).length = k) {op : Oper} {a : Act} {K : Act → World → Prop} {Q : Exit → Act → World → Prop} (s y : Operand) {t T : TypeId} (ho : op.op = .call { callee := .builtin .append, args := #[s, y], argTypes := #[t, t] })
    (ht : P.underlying t = some (.slice T)) {i : TypeInfo} {z : Value} {bytes : Nat} (hi : P.info? T = some i) (hz : i.zero = some z) (hs : i.size = k) (hby : i.bytes = bytes) (hzs : z.cells.size = k)
    {B : Nat} {ad : Option Addr} {cap : Nat} {L : List α} {w : World} (h : Lg f k T B ad cap L w) (hB : B ≤ w.heap.size) {n : Nat} (hn : L.length = n) (he : a.eval s = .slice ad n cap) {x : Value} {M : List α} (hM : 0 < M.length) (hx : Src P k t x M.length (flat f M) w) (hey : a.eval y = x) (hb : (n + M.length) * bytes ≤ 140737488355328) (h63 : n + M.length ≤ maxLen)
    (hK : ∀ ad' cap' w', Lg f k T B ad' cap' (L ++ M) w' → Kp (blkOf ad) w w' → (∀ A ∈ blkOf ad', A ∈ blkOf ad ∨ w.heap.size ≤ A) → K (a.put op.dst (.slice ad' (n + M.length) cap')) w') : op.wp P a w K Q := by
  subst hn
  obtain ⟨ad', cap', w', hr, h1, h2, g, e, h3⟩ := run_append_lk (P := P) hk op.type ht hi hz hs hby hzs h hB hM hx hb h63
  have hk2 := hK ad' cap' w' h1 h2 (fun A hA => by
    rcases h3 with h3 | h3
    · rw [h3] at hA; exact .inl hA
    · rw [e] at hA; simp [blkOf] at hA; subst hA; exact .inr h3)
  unfold Oper.wp execOp
  simp only [ho, resolve, invoke, builtin, Sem.run_bind, Sem.run_pure, Result.andThen_ok, List.map_toArray, List.map_cons, List.map_nil, he, hey, hr]
  exact hk2
end

/- A struct that lies in a variable, and two things more. -/
theorem ret_ctt {P : Program} {fn : Func} {p u v : Tmp} {T U : TypeId} (hr : fn.results = #[.cell p T, .tmp u, .tmp v]) {tmps : Array Value} {w : World} {B : Nat} {C : Array Value} (hp : tmps.getD p undef = .pointer (some ⟨B, 0, none⟩)) (hB : Blk B C U w) {d : TypeDesc} (hU : P.underlying T = some d) (hd : d.isRow = true) (hC : (P.info? T).map (·.size) = some C.size) {x y : Value} (hu : tmps.getD u undef = x) (hv : tmps.getD v undef = y) :
    (results fn tmps).run P w = .ok (.tuple #[.agg C, x, y]) w := by
  have := run_loadVar_row (P := P) w B U T C (0, 0) _ hB hU (by cases d <;> first | rfl | exact hd) hC
  rw [Array.getD_eq_getD_getElem?] at hp hu hv
  simp only [results, hr]
  simp [hp, hu, hv, asAddr, this]

end Go.Proofs.Ytmnpbjaofemelaa
