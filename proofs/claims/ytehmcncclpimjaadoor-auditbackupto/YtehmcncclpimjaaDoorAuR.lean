/-
  The library's iterator over the lines of a text, for every body of the loop that keeps its three boxes.
  The text has at most 2^47 bytes.
-/
import Derived.RangeFuncNested
import Derived.RangeFuncBound
import Derived.RangeFuncCalls
import Derived.RangeFuncLeaves
import Derived.RangeFuncBox
import Derived.Shelf.Abstract
import Derived.Shelf.RegionOpen
import Derived.WalkKit
import Derived.OwnWalkIn
import Derived.TacticsInMore
import Derived.LoopNIn
import Derived.LoopIn
import Derived.Test.YtehmcncclpimjaaDoorAuP
import Derived.Test.YtehmcncclpimjaaDoorAuQ
namespace Go.Proofs.YtehmcncclpimjaaDoor
set_option maxRecDepth 10000
open Go.RowKit Go.Sort Go.Shelf
set_option linter.unusedVariables false
set_option linter.unusedSimpArgs false

section
attribute [local go_sem] Oper.semAt_some

theorem idx_cases (R : List UInt8) : ((10 : UInt8) ∉ R ∧ Lib.indexByte R 10 = -1) ∨ ∃ g r, R = g ++ 10 :: r ∧ (10 : UInt8) ∉ g ∧ Lib.indexByte R 10 = (g.length : Int) := by
  rcases indexB_or R 10 with h | h
  · exact .inl ⟨indexB_no h, h⟩
  · obtain ⟨i, h1, h2, h3, h4⟩ := indexB_hit h
    exact .inr ⟨R.take i, R.drop (i + 1), h3, h4, by rw [h1, List.length_take]; omega⟩
def leftS (b : Nat) (W : World) : Nat := match W.cell? ⟨b, 0, none⟩ with | some (.string c) => c.size | _ => 0
theorem leftS_eq {b : Nat} {W : World} {t : TypeId} {c : ByteArray} (h : Boxed W b t (.string c)) : leftS b W = c.size := by
  unfold leftS
  rw [h.cell]
theorem boxed_block {W W' : World} {b : Nat} {t : TypeId} {v : Value} (h : Boxed W b t v) (e : W'.heap[b]? = W.heap[b]?) : Boxed W' b t v := e.trans h

set_option maxRecDepth 100000 in
set_option maxHeartbeats 2000000 in
theorem split_iter (n l b : Nat) (hn1 : 1 ≤ n) (J : List UInt8 → World → Prop) (Jx : World → Prop)
    (hJ : ∀ R W v, J R W → J R (W.setCell ⟨b, 0, none⟩ v))
    (hY : ∀ g r W1, (10 : UInt8) ∉ g → J (g ++ 10 :: r) W1 → YieldAt Fence.wide (n - 1) Tryd.prog l #[.string (strB (g ++ [10]))] W1 fun e W' => (e = .returned (.bool true) ∧ J r W' ∧ ∀ k, b ≤ k → k < b + 3 → W'.heap[k]? = W1.heap[k]?) ∨ (e = .returned (.bool false) ∧ Jx W'))
    (hZ : ∀ g W1, (10 : UInt8) ∉ g → J g W1 → YieldAt Fence.wide (n - 1) Tryd.prog l #[.string (strB g)] W1 fun e W' => ∃ v, e = .returned (.bool v) ∧ Jx W')
    (s : List UInt8) (hs : s.length ≤ 140737488355328) (W : World) (b0 : Boxed W b 9 (.string (strB s))) (b1 : Boxed W (b + 1) 9 (.string { data := #[10] })) (b2 : Boxed W (b + 2) 3 (.int .i64 1)) (h0 : J s W) :
    CallsIn Fence.wide n Tryd.prog 58 #[.func (.yield l) #[] #[], .pointer (some ⟨b + 1, 0, none⟩), .pointer (some ⟨b, 0, none⟩), .pointer (some ⟨b + 2, 0, none⟩)] W fun e W' => (∃ v, e = .returned v) ∧ Jx W' := by
  refine callsIn_of_wp Tryd.func58 rfl trivial ?_ rfl
  simp only [Tryd.ntmps58, List.size_toArray, List.length_cons, List.length_nil, Nat.reduceAdd, Nat.reduceSub, Array.replicate_succ, Array.replicate_zero, List.push_toArray, List.append_toArray, List.nil_append, List.cons_append]
  have c1 := b1.cell
  have e10 : (ByteArray.mk #[10]).size = 1 := rfl
  gi_wp2
  gi_loopw [7] (fun _ wr => ∃ R : List UInt8, R.length ≤ 140737488355328 ∧ Boxed wr b 9 (.string (strB R)) ∧ Boxed wr (b + 1) 9 (.string { data := #[10] }) ∧ Boxed wr (b + 2) 3 (.int .i64 1) ∧ J R wr) (fun _ wr => leftS b wr)
  case atStart => exact ⟨s, hs, b0, b1, b2, h0⟩
  case round =>
    obtain ⟨R, hR, x0, x1, x2, hJR⟩ := hrel
    clear b0 b1 b2 c1 h0
    have c0 := x0.cell
    have c1 := x1.cell
    have c2 := x2.cell
    have f0 := x0.frozen
    have hm := leftS_eq x0
    rcases idx_cases R with ⟨hn, hi⟩ | ⟨g, r, rfl, hn, hi⟩
    · obtain ⟨fn, tmps, assign, body, hy, hRd⟩ := hZ R wr hn hJR
      have pI := Tryd.strings_Index_one (strB R) 10 wr
      rw [show (strB R).data.toList = R from bL_strB R, hi] at pI
      generalize strB R = C at pI hy c0
      gi_wp2_with (first | (refine ⟨trivial, ?_⟩; gi_at_call 60; refine (callsIn_wide.2 pI).mono ?_; rintro e w' ⟨rfl, rfl⟩) | (refine hRd.mono ?_; rintro e w2 ⟨v, rfl, hX⟩))
      go_end0
      exact ⟨⟨_, rfl⟩, hX⟩
    · obtain ⟨fn, tmps, assign, body, hy, hRd⟩ := hY g r wr hn hJR
      have pI := Tryd.strings_Index_one (strB (g ++ 10 :: r)) 10 wr
      rw [show (strB (g ++ 10 :: r)).data.toList = g ++ 10 :: r from bL_strB _, hi] at pI
      have s1 : ∀ W, (Instr.slice 9 (.string (strB (g ++ 10 :: r))) none (some (.int .i64 ((g.length : Int) + 1))) none).run Tryd.prog W = .ok (.string (strB (g ++ [10]))) W := fun W => by
        have := sl_take (strB (g ++ 10 :: r)) (g.length + 1) (by rw [strB_size, List.length_append, List.length_cons]; omega) .i64 W
        rw [bL_strB, show (g ++ 10 :: r).take (g.length + 1) = g ++ [10] by rw [show g ++ 10 :: r = (g ++ [10]) ++ r by simp, show g.length + 1 = (g ++ [(10 : UInt8)]).length by simp, List.take_left]] at this
        exact this
      have s2 : ∀ W, (Instr.slice 9 (.string (strB (g ++ 10 :: r))) (some (.int .i64 ((g.length : Int) + 1))) none none).run Tryd.prog W = .ok (.string (strB r)) W := fun W => by
        have := sl_drop (strB (g ++ 10 :: r)) (g.length + 1) (by rw [strB_size, List.length_append, List.length_cons]; omega) .i64 ((g.length : Int) + 1) rfl W
        rw [bL_strB, show (g ++ 10 :: r).drop (g.length + 1) = r by rw [show g ++ 10 :: r = (g ++ [10]) ++ r by simp, show g.length + 1 = (g ++ [(10 : UInt8)]).length by simp, List.drop_left]] at this
        exact this
      have hrl : r.length ≤ 140737488355328 := by rw [List.length_append, List.length_cons] at hR; omega
      have hgl : g.length + 1 ≤ 140737488355328 := by rw [List.length_append, List.length_cons] at hR; omega
      have hlt : r.length < (g ++ 10 :: r).length := by rw [List.length_append, List.length_cons]; omega
      rw [strB_size] at hm
      generalize strB (g ++ 10 :: r) = C at pI hy c0 s1 s2 x0
      generalize strB (g ++ [10]) = D at hy s1
      generalize hM : (g ++ 10 :: r).length = M at hlt hm
      replace hRd := hRd.mono (R' := fun e W' => (e = .returned (.bool true) ∧ J r W' ∧ Boxed W' b 9 (.string C) ∧ Boxed W' (b + 1) 9 (.string { data := #[10] }) ∧ Boxed W' (b + 2) 3 (.int .i64 1) ∧ W'.cell? ⟨b, 0, none⟩ = some (.string C) ∧ W'.cell? ⟨b + 1, 0, none⟩ = some (.string { data := #[10] }) ∧ W'.frozen? ⟨b, 0, none⟩ = false) ∨ (e = .returned (.bool false) ∧ Jx W')) (by
        rintro e W' (⟨rfl, a, k⟩ | ⟨rfl, a⟩)
        · have y0 := boxed_block x0 (k b (by omega) (by omega))
          have y1 := boxed_block x1 (k (b + 1) (by omega) (by omega))
          exact .inl ⟨rfl, a, y0, y1, boxed_block x2 (k (b + 2) (by omega) (by omega)), y0.cell, y1.cell, y0.frozen⟩
        · exact .inr ⟨rfl, a⟩)
      clear hR hM x0 x1 x2
      obtain ⟨m, hgm⟩ : ∃ m, g.length = m := ⟨_, rfl⟩
      rw [hgm] at s1 s2 pI hgl
      have hw1 : IntKind.i64.wrap ((m : Int) + 1) = (m : Int) + 1 := by rw [IntKind.wrap_i64]; omega
      have d0 : ¬ (m : Int) < 0 := by omega
      gi_wp2_with (first | (refine ⟨trivial, ?_⟩; gi_at_call 60; refine (callsIn_wide.2 pI).mono ?_; rintro e w' ⟨rfl, rfl⟩) | (refine hRd.mono ?_; rintro e w2 (⟨rfl, hJ2, y0, y1, y2, g0, g1, gf⟩ | ⟨rfl, hX⟩)))
      · go_roundw
        case rel => exact ⟨r, hrl, y0.set _, y1.other (by omega) _, y2.other (by omega) _, hJ _ _ _ hJ2⟩
        case measure => rw [leftS_eq (y0.set _), hm, strB_size]; exact hlt
      · refine bodyPost_ret (results_none rfl _ _ _) rfl ?_
        exact ⟨⟨_, rfl⟩, hX⟩
end

end Go.Proofs.YtehmcncclpimjaaDoor
