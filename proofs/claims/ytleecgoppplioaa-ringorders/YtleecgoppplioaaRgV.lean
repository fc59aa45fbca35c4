/-
  A ring, what was taken into it, and what came out of it, each in a row of its own; a list of bools as an argument.
  No condition.
-/
import Derived.Test.YtleecgoppplioaaRgU
namespace Go.Proofs.Ytleecgoppplioaa
set_option maxRecDepth 10000
open Go.ChangeShapes Go.WideShapes Go.ChangeAt Go.RowKit Go.WideElems Go.Sort

structure Ord (R G gt ct gc cc room : Nat) (M T C : List En) (w w' : World) : Prop where
  rg : Rg R G room M w'
  ot : Ow En.vals 6 30 gt ct T w'
  oc : Ow En.vals 6 30 gc cc C w'
  k : Kp [] w w'
  lo : w.heap.size ≤ R ∧ w.heap.size ≤ G ∧ w.heap.size ≤ gt ∧ w.heap.size ≤ gc
  d : gt ≠ R ∧ gt ≠ G ∧ gc ≠ R ∧ gc ≠ G ∧ gt ≠ gc

theorem Ord.below {R G gt ct gc cc room : Nat} {M T C : List En} {w w1 w2 : World} (h : Ord R G gt ct gc cc room M T C w w1) (hb : Below w1.heap.size w1 w2) : Ord R G gt ct gc cc room M T C w w2 :=
  ⟨h.rg.below hb, h.ot.below hb, h.oc.below hb, h.k.trans (Kp.of_below hb), h.lo, h.d⟩
theorem Ord.alloc {R G gt ct gc cc room : Nat} {M T C : List En} {w w1 : World} (h : Ord R G gt ct gc cc room M T C w w1) (o : Obj) : Ord R G gt ct gc cc room M T C w (w1.alloc o) := h.below (below_box _ _)
theorem Ord.ring {R G gt ct gc cc room : Nat} {M M' T C : List En} {w w1 w2 : World} (h : Ord R G gt ct gc cc room M T C w w1) (hr : Rg R G room M' w2) (hk : Kp [R, G] w1 w2) : Ord R G gt ct gc cc room M' T C w w2 :=
  ⟨hr, h.ot.kp hk (by have := h.d; simp; omega), h.oc.kp hk (by have := h.d; simp; omega), h.k.over hk h.lo.1 h.lo.2.1, h.lo, h.d⟩
theorem Ord.tk {R G gt ct gc cc g c room : Nat} {M T T' C : List En} {w w1 w2 : World} (h : Ord R G gt ct gc cc room M T C w w1) (ow : Ow En.vals 6 30 g c T' w2) (hk : Kp [gt] w1 w2) (hg : g = gt ∨ w1.heap.size ≤ g) : Ord R G g c gc cc room M T' C w w2 := by
  have l := h.rg.lt
  have l2 := h.oc.lt
  have d := h.d
  have lo := h.lo
  have s := h.k.size
  exact ⟨h.rg.kp hk (by simp; omega) (by simp; omega), ow, h.oc.kp hk (by simp; omega), h.k.new hk lo.2.2.1, by omega, by omega⟩
theorem Ord.cm {R G gt ct gc cc g c room : Nat} {M T C C' : List En} {w w1 w2 : World} (h : Ord R G gt ct gc cc room M T C w w1) (ow : Ow En.vals 6 30 g c C' w2) (hk : Kp [gc] w1 w2) (hg : g = gc ∨ w1.heap.size ≤ g) : Ord R G gt ct g c room M T C' w w2 := by
  have l := h.rg.lt
  have l2 := h.ot.lt
  have d := h.d
  have lo := h.lo
  have s := h.k.size
  exact ⟨h.rg.kp hk (by simp; omega) (by simp; omega), h.ot.kp hk (by simp; omega), ow, h.k.new hk lo.2.2.2, by omega, by omega⟩

theorem boxSrc (w1 : World) (e : En) : Src Try.prog 6 27 (.slice (some ⟨w1.heap.size, 0, none⟩) 1 1) 1 (flat En.vals [e]) (w1.alloc (.cells e.arr 30)) :=
  (li_box (f := En.vals) w1 e 30 0 (Nat.zero_le _)).src (P := Try.prog) En.vals_length En.vals_one Try.underlying27 1

/- What came is the beginning of what was taken. -/
theorem pre_le {T C : List En} (h : C = T.take C.length) : C.length ≤ T.length := by
  have := congrArg List.length h
  rw [List.length_take] at this
  omega
theorem pre_take {T C : List En} (x : En) (h : C = T.take C.length) : C = (T ++ [x]).take C.length := by
  rw [List.take_append_of_le_length (pre_le h)]
  exact h
theorem pre_drop {T C : List En} (x : En) (h : C = T.take C.length) : (T ++ [x]).drop C.length = T.drop C.length ++ [x] := List.drop_append_of_le_length (pre_le h)
theorem pre_pop {T C M : List En} {y : En} (h : C = T.take C.length) (hd : T.drop C.length = y :: M) : (C ++ [y]) = T.take (C ++ [y]).length ∧ M = T.drop (C ++ [y]).length := by
  have hl := pre_le h
  have e : T = C ++ (y :: M) := by
    conv => lhs; rw [← List.take_append_drop C.length T, ← h, hd]
  refine ⟨?_, ?_⟩
  · have e2 : T = (C ++ [y]) ++ M := by rw [e]; simp
    conv => rhs; rw [e2]
    exact (List.take_left).symm
  · conv => rhs; rw [e]
    simp [List.drop_append]
theorem pre_at {T C : List En} (h : C = T.take C.length) (i : Nat) (x : En) (hx : C[i]? = some x) : T[i]? = some x := by
  have hi := (List.getElem?_eq_some_iff.1 hx).1
  rw [h, List.getElem?_take, if_pos hi] at hx
  exact hx

def boolV (b : Bool) : List Value := [.bool b]
section
variable {H : Type} {enc : TypeId × Value → H} {W : World} {base : Nat} {spare : Nat → Bool} {held : Bool}

theorem cellsBool {cs : List Value} {fuel : Nat} {x : DataW H × List MemPlace} (h : DataW.trod enc Try.prog W base spare held fuel 4 cs = some x) : ∃ b : Bool, cs = boolV b := by
  obtain ⟨b, e, _⟩ := DataW.trod_bool Try.underlying4 h
  exact ⟨b, e⟩
theorem open_bools {v : Value} {d : DataW H} {p : List MemPlace} (hv : ∃ a n c, v = .slice a n c) (h : DataW.Trod enc Try.prog W base spare held 44 v d p) :
    ∃ (a : Option Addr) (L : List Bool) (c : Nat), v = .slice a L.length c ∧ L.length ≤ maxLen ∧ Li boolV 0 a L W :=
  open_li (f := boolV) (k := 1) false (fun _ => rfl) (by decide) Try.underlying44 (by kernel_rfl) cellsBool hv h
end

end Go.Proofs.Ytleecgoppplioaa
