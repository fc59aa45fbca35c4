/-
  Steps of a region that draws its order, for lists: one frame laid as a slice of its own, append to a list of one's own; results of which the second lies in a variable.
  No condition.
-/
import Derived.Test.YteibclgipninoaaLk
import Derived.Test.YteibclgipninoaaKt
namespace Go.Proofs.Yteibclgipninoaa
set_option maxRecDepth 10000
open Go.RowKit Go.Sort

theorem wp_kt {o : Oper} {a : Act} {w : World} {K : Act → World → Prop} {Q : Exit → Act → World → Prop} (y : Operand) (ho : o.op = .buildSlice 22 1 #[(0, y)]) (x : Kt) (hx : a.eval y = .agg x.arr)
    (h : ∀ p W, Blk p x.arr 36 W → Below w.heap.size w W → w.heap.size ≤ p → p < W.heap.size → K (a.put o.dst (.slice (some ⟨p, 0, none⟩) 1 1)) W) : o.wp Try.prog a w K Q := by
  have hk := h _ _ (blk_new w x.arr 36) (below_box w _) (Nat.le_refl _) (by simp)
  unfold Oper.wp execOp
  simp only [ho, List.map_toArray, List.map_cons, List.map_nil, hx, Sem.run_bind, Sem.run_pure, bsKt, Result.andThen_ok]
  exact hk

theorem ret_tct {P : Program} {fn : Func} {p u v : Tmp} {T U : TypeId} (hr : fn.results = #[.tmp u, .cell p T, .tmp v]) {tmps : Array Value} {w : World} {B : Nat} {C : Array Value} (hp : tmps.getD p undef = .pointer (some ⟨B, 0, none⟩)) (hB : Blk B C U w) {d : TypeDesc} (hU : P.underlying T = some d) (hd : d.isRow = true) (hC : (P.info? T).map (·.size) = some C.size) {x y : Value} (hu : tmps.getD u undef = x) (hv : tmps.getD v undef = y) :
    (results fn tmps).run P w = .ok (.tuple #[x, .agg C, y]) w := by
  have := run_loadVar_row (P := P) w B U T C (0, 0) _ hB hU (by cases d <;> first | rfl | exact hd) hC
  rw [Array.getD_eq_getD_getElem?] at hp hu hv
  simp only [results, hr]
  simp [hp, hu, hv, asAddr, this]

section
variable {α : Type} {f : α → List Value} {k : Nat}

theorem li_one {p : Nat} {x : α} {T : TypeId} {w : World} (h : Blk p (f x).toArray T w) : Li f 0 (some ⟨p, 0, none⟩) [x] w := .inr ⟨p, 0, rfl, Nat.zero_le _, h.lt, by simpa [flat] using h.whole⟩
theorem wp_append_lk {P : Program} (hk : ∀ x, (f x).length = k) {op : Oper} {a : Act} {K : Act → World → Prop} {Q : Exit → Act → World → Prop} (s y : Operand) {t T : TypeId} (ho : op.op = .call { callee := .builtin .append, args := #[s, y], argTypes := #[t, t] })
    (ht : P.underlying t = some (.slice T)) {i : TypeInfo} {z : Value} {bytes : Nat} (hi : P.info? T = some i) (hz : i.zero = some z) (hs : i.size = k) (hby : i.bytes = bytes) (hzs : z.cells.size = k)
    {B : Nat} {ad : Option Addr} {cap : Nat} {L : List α} {w : World} (h : Lg f k T B ad cap L w) (hB : B ≤ w.heap.size) (he : a.eval s = .slice ad L.length cap) {x : Value} {M : List α} (hM : 0 < M.length) (hx : Src P k t x M.length (flat f M) w) (hey : a.eval y = x) (hb : (L.length + M.length) * bytes ≤ 140737488355328) (h63 : L.length + M.length ≤ maxLen)
    (hK : ∀ ad' cap' w', Lg f k T B ad' cap' (L ++ M) w' → Kp (blkOf ad) w w' → K (a.put op.dst (.slice ad' (L.length + M.length) cap')) w') : op.wp P a w K Q := by
  obtain ⟨ad', cap', w', hr, h1, h2, _⟩ := run_append_lk (P := P) hk op.type ht hi hz hs hby hzs h hB hM hx hb h63
  have hk2 := hK ad' cap' w' h1 h2
  unfold Oper.wp execOp
  simp only [ho, resolve, invoke, builtin, Sem.run_bind, Sem.run_pure, Result.andThen_ok, List.map_toArray, List.map_cons, List.map_nil, he, hey, hr]
  exact hk2
end

end Go.Proofs.Yteibclgipninoaa
