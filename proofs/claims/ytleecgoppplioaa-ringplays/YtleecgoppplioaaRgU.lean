/-
  Two rings side by side: what is done with the one leaves the other as it was.
  No condition.
-/
import Derived.Test.YtleecgoppplioaaRgT
namespace Go.Proofs.Ytleecgoppplioaa
set_option maxRecDepth 10000
open Go.RowKit Go.Sort

structure Two (R G Q H room : Nat) (L M : List En) (w w' : World) : Prop where
  a : Rg R G room L w'
  b : Rg Q H room M w'
  k : Kp [] w w'
  r : w.heap.size ≤ R ∧ w.heap.size ≤ G ∧ w.heap.size ≤ Q ∧ w.heap.size ≤ H
  d : Q ≠ R ∧ Q ≠ G ∧ H ≠ R ∧ H ≠ G

theorem Two.below {R G Q H room : Nat} {L M : List En} {w w1 w2 : World} (h : Two R G Q H room L M w w1) (hb : Below w1.heap.size w1 w2) : Two R G Q H room L M w w2 := ⟨h.a.below hb, h.b.below hb, h.k.trans (Kp.of_below hb), h.r, h.d⟩
theorem Two.alloc {R G Q H room : Nat} {L M : List En} {w w1 : World} (h : Two R G Q H room L M w w1) (o : Obj) : Two R G Q H room L M w (w1.alloc o) := h.below (below_box _ _)
theorem Kp.over {R G : Nat} {w w1 w2 : World} (h : Kp [] w w1) (hk : Kp [R, G] w1 w2) (hR : w.heap.size ≤ R) (hG : w.heap.size ≤ G) : Kp [] w w2 :=
  ⟨hk.os.trans h.os, hk.tape.trans h.tape, hk.output.trans h.output, Nat.le_trans h.size hk.size, fun k hk1 _ => (hk.block k (Nat.lt_of_lt_of_le hk1 h.size) (by simp; omega)).trans (h.block k hk1 (by simp))⟩
theorem Two.nextA {R G Q H room : Nat} {L L' M : List En} {w w1 w2 : World} (h : Two R G Q H room L M w w1) (hr : Rg R G room L' w2) (hk : Kp [R, G] w1 w2) : Two R G Q H room L' M w w2 :=
  ⟨hr, h.b.kp hk (by have := h.d; simp; omega) (by have := h.d; simp; omega), h.k.over hk h.r.1 h.r.2.1, h.r, h.d⟩
theorem Two.nextB {R G Q H room : Nat} {L M M' : List En} {w w1 w2 : World} (h : Two R G Q H room L M w w1) (hr : Rg Q H room M' w2) (hk : Kp [Q, H] w1 w2) : Two R G Q H room L M' w w2 :=
  ⟨h.a.kp hk (by have := h.d; simp; omega) (by have := h.d; simp; omega), hr, h.k.over hk h.r.2.2.1 h.r.2.2.2, h.r, h.d⟩
theorem Two.neA {R G Q H room : Nat} {L M : List En} {w w1 : World} (h : Two R G Q H room L M w w1) {V : Nat} (hV : w1.heap.size ≤ V) : V ∉ [R, G] := by
  have := h.a.lt; simp; omega
theorem Two.neB {R G Q H room : Nat} {L M : List En} {w w1 : World} (h : Two R G Q H room L M w w1) {V : Nat} (hV : w1.heap.size ≤ V) : V ∉ [Q, H] := by
  have := h.b.lt; simp; omega
theorem Two.new {R G Q H room : Nat} {w w1 w2 : World} (h1 : Rg R G room [] w1) (hR : w.heap.size ≤ R) (hG : w.heap.size ≤ G) (hb1 : Below w.heap.size w w1) (h2 : Rg Q H room [] w2) (hQ : w1.heap.size ≤ Q) (hH : w1.heap.size ≤ H) (hb2 : Below w1.heap.size w1 w2) : Two R G Q H room [] [] w w2 := by
  have := h1.lt
  have := hb1.size
  exact ⟨h1.below hb2, h2, (Kp.of_below hb1).trans (Kp.of_below hb2), by omega, by omega⟩

theorem pop_as {R G room : Nat} {L : List En} {w : World} (h : Rg R G room L w) {e : En} {t : Bool} (he : Hid (L.headD En.zero = e)) (ht : Hid ((!L.isEmpty) = t)) : Calls Try.prog 12 #[.pointer (some ⟨R, 0, none⟩)] w fun r w' => r = .returned (.tuple #[.agg e.arr, .bool t]) ∧ Rg R G room L.tail w' ∧ Kp [R, G] w w' := by
  rw [← he.out, ← ht.out]
  exact pop_ok h

theorem push_as {R G room : Nat} {L M : List En} {w : World} (h : Rg R G room L w) (e : En) {t : Bool} (hM : Hid ((if L.length < room then L ++ [e] else L) = M)) (ht : Hid (decide (L.length < room) = t)) : Calls Try.prog 10 #[.pointer (some ⟨R, 0, none⟩), .agg e.arr] w fun r w' => r = .returned (.bool t) ∧ Rg R G room M w' ∧ Kp [R, G] w w' := by
  rw [← hM.out, ← ht.out]
  exact push_ok h e

theorem takes (L : List En) (j : Nat) (x : En) (hx : L[j]? = some x) : L.take (j + 1) = L.take j ++ [x] := by
  rw [List.take_add_one, hx]
  rfl
theorem drops_head (L : List En) (j : Nat) : (L.drop j).tail = L.drop (j + 1) := by simp

end Go.Proofs.Ytleecgoppplioaa
