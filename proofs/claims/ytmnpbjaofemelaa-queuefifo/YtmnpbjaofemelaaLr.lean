/-
  Three results, the second of which lies in a variable; an element of a list that lies somewhere; a list made since an elder world.
  No condition.
-/
import Derived.Test.YtmnpbjaofemelaaLk
namespace Go.Proofs.Ytmnpbjaofemelaa
set_option maxRecDepth 10000
open Go.RowKit Go.Sort

theorem ret_tct {P : Program} {fn : Func} {p u v : Tmp} {T U : TypeId} (hr : fn.results = #[.tmp u, .cell p T, .tmp v]) {tmps : Array Value} {w : World} {B : Nat} {C : Array Value} (hp : tmps.getD p undef = .pointer (some ⟨B, 0, none⟩)) (hB : Blk B C U w) {d : TypeDesc} (hU : P.underlying T = some d) (hd : d.isRow = true) (hC : (P.info? T).map (·.size) = some C.size) {x y : Value} (hu : tmps.getD u undef = x) (hv : tmps.getD v undef = y) :
    (results fn tmps).run P w = .ok (.tuple #[x, .agg C, y]) w := by
  have := run_loadVar_row (P := P) w B U T C (0, 0) _ hB hU (by cases d <;> first | rfl | exact hd) hC
  rw [Array.getD_eq_getD_getElem?] at hp hu hv
  simp only [results, hr]
  simp [hp, hu, hv, asAddr, this]

theorem Li.rng {α : Type} {f : α → List Value} {k : Nat} (hk : ∀ x, (f x).length = k) {B b o : Nat} {L : List α} {w : World} (h : Li f B (some ⟨b, o, none⟩) L w) (i : Nat) (x : α) (hx : L[i]? = some x) : w.rangeAt b (o + i * k) (f x) := by
  obtain ⟨b', o', e, _, _, hr⟩ := h.at hk i x hx
  injection e with e
  injection e with e1 e2 e3
  subst e1 e2
  exact hr
theorem Lg.mono {α : Type} {f : α → List Value} {k : Nat} {T : TypeId} {B B' : Nat} {a : Option Addr} {cap : Nat} {L : List α} {w : World} (h : Lg f k T B a cap L w) (hB : B' ≤ B) : Lg f k T B' a cap L w := by
  rcases h with h | ⟨g, e, h1, h2⟩
  · exact .inl h
  · exact .inr ⟨g, e, Nat.le_trans hB h1, h2⟩

end Go.Proofs.Ytmnpbjaofemelaa
