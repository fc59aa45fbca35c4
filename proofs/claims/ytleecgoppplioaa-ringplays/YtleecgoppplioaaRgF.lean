/-
  What Drop returns, and what a ring holds behind it.
  Condition: the ring holds a list.
-/
import Derived.Test.YtleecgoppplioaaRgE
namespace Go.Proofs.Ytleecgoppplioaa
set_option maxRecDepth 10000
open Go.RowKit Go.Sort

def keepL (L : List En) (s : Nat) : List En := L.filter fun e => !decide (e.se = s)

theorem pop_cons {R G room : Nat} {x : En} {M : List En} {w : World} (h : Rg R G room (x :: M) w) : Calls Try.prog 12 #[.pointer (some ⟨R, 0, none⟩)] w fun r w' => r = .returned (.tuple #[.agg x.arr, .bool true]) ∧ Rg R G room M w' ∧ Kp [R, G] w w' := pop_some h
theorem pop_nil {R G room : Nat} {w : World} (h : Rg R G room [] w) : Calls Try.prog 12 #[.pointer (some ⟨R, 0, none⟩)] w fun r w' => r = .returned (.tuple #[.agg En.zero.arr, .bool false]) ∧ Rg R G room [] w' ∧ Kp [R, G] w w' := pop_none h
theorem push_in {R G room : Nat} {L : List En} {w : World} (h : Rg R G room L w) (hL : L.length < room) (e : En) : Calls Try.prog 10 #[.pointer (some ⟨R, 0, none⟩), .agg e.arr] w fun r w' => r = .returned (.bool true) ∧ Rg R G room (L ++ [e]) w' ∧ Kp [R, G] w w' := by
  refine (push_room h hL e).mono fun r w' hp => ?_
  obtain ⟨h1, h2, h3⟩ := hp
  rw [decide_eq_true hL] at h1
  rw [if_pos hL] at h2
  exact ⟨h1, h2, h3⟩
theorem push_no {R G room : Nat} {L : List En} {w : World} (h : Rg R G room L w) (hL : L.length = room) (e : En) : Calls Try.prog 10 #[.pointer (some ⟨R, 0, none⟩), .agg e.arr] w fun r w' => r = .returned (.bool false) ∧ Rg R G room L w' ∧ Kp [R, G] w w' := by
  refine (push_full h hL e).mono fun r w' hp => ?_
  obtain ⟨h1, h2, h3⟩ := hp
  rw [decide_eq_false (by omega)] at h1
  rw [if_neg (by omega)] at h2
  exact ⟨h1, h2, h3⟩

theorem keep_step (L : List En) (s j : Nat) (x : En) (hx : L[j]? = some x) : keepL (L.take (j + 1)) s = keepL (L.take j) s ++ (if x.se = s then [] else [x]) := by
  have hj := (List.getElem?_eq_some_iff.1 hx).1
  have e : L.take (j + 1) = L.take j ++ [x] := by
    rw [List.take_add_one, hx]
    rfl
  rw [keepL, e, List.filter_append, keepL]
  congr 1
  by_cases h : x.se = s
  · rw [if_pos h]; simp [h]
  · rw [if_neg h]; simp [h]
theorem keep_le (L : List En) (s : Nat) : (keepL L s).length ≤ L.length := List.length_filter_le _ _
theorem drop_cons (L : List En) (j : Nat) (x : En) (hx : L[j]? = some x) : L.drop j = x :: L.drop (j + 1) := by
  have hj := (List.getElem?_eq_some_iff.1 hx).1
  rw [List.drop_eq_getElem_cons hj]
  congr 1
  rw [List.getElem?_eq_getElem hj] at hx
  simpa using hx

theorem sess_cell {V : Nat} {x : En} {T : TypeId} {w : World} (h : Blk V x.arr T w) : w.cell? ⟨V, 3, none⟩ = some (.int .u64 (x.se : Int)) := h.cell 3 _ rfl

set_option maxHeartbeats 4000000 in
theorem drop_ok {R G room : Nat} {L : List En} {w : World} (h : Rg R G room L w) (s : Nat) : Calls Try.prog 15 #[.pointer (some ⟨R, 0, none⟩), .int .u64 (s : Int)] w fun r w' =>
    r = .returned (.int .i64 ((L.length : Int) - ((keepL L s).length : Int))) ∧ Rg R G room (keepL L s) w' ∧ Kp [R, G] w w' := by
  have hle := h.le
  have hc2 : w.cell? ⟨R, 2, none⟩ = some (.int .i64 (L.length : Int)) := by
    obtain ⟨first, bufs, h1, _⟩ := h
    exact (rg_cells h1).2.2
  have hkl := keep_le L s
  obtain ⟨n, hn⟩ : ∃ n, L.length = n := ⟨_, rfl⟩
  rw [hn] at hc2 hle hkl ⊢
  have HN : Hid (L.length = n) := hn
  clear hn
  go_enter Try.func15, Try.ntmps15
  go_wp2_with fail
  clear hc2
  go_loopw [13] (fun i wr => ∃ j : Nat, j ≤ n ∧ i = .int .i64 j ∧ Rg R G room (L.drop j ++ keepL (L.take j) s) wr ∧ Kp [R, G] w wr) (fun i _ => n - (intOf i).toNat)
  case atStart => exact ⟨0, by omega, rfl, by simpa [keepL] using h, Kp.refl _ _⟩
  case round =>
    clear h
    obtain ⟨j, hj, rfl, hr, hk⟩ := hrel
    by_cases hjl : j < n
    · have j0 : (j : Int) < (n : Int) := by omega
      obtain ⟨x, hx⟩ : ∃ x, L[j]? = some x := ⟨_, List.getElem?_eq_getElem (by rw [HN.out]; exact hjl)⟩
      have hst := keep_step L s j x hx
      rw [drop_cons L j x hx, List.cons_append] at hr
      have hlen : (L.drop (j + 1) ++ keepL (L.take j) s).length < room := by have := hr.le.1; simp only [List.length_cons] at this; omega
      clear hx
      go_wp2_with fail
      refine (pop_cons hr).mono ?_
      rintro r w1 ⟨rfl, hr1, hk1⟩
      have hk1 := hk.trans hk1
      have hV := blk_new w1 x.arr 30
      have hc := sess_cell hV
      have hr1 := hr1.below (below_box w1 (.cells x.arr 30))
      have hk1 := hk1.trans (Kp.alloc _ w1 (.cells x.arr 30))
      clear hr hk
      by_cases hse : x.se = s
      · have hse2 : (x.se : Int) = (s : Int) := by omega
        rw [if_pos hse, List.append_nil] at hst
        rw [← hst] at hr1
        clear hse
        go_wp2_with (first | refine alloc_zero zeroEn rfl rfl ?_ | refine store_new rfl 30 _ _ rfl rfl rfl x.size rfl x.arr_one ?_)
        refine ⟨⟨j + 1, by omega, by go_num, hr1, hk1⟩, by simp [intOf]; omega⟩
      · have hse2 : ¬ (x.se : Int) = (s : Int) := by omega
        rw [if_neg hse] at hst
        clear hse
        go_wp2_with (first | refine alloc_zero zeroEn rfl rfl ?_ | refine store_new rfl 30 _ _ rfl rfl rfl x.size rfl x.arr_one ?_ | refine load_blk rfl 30 _ rfl hV rfl Try.underlying30 rfl x.size ?_)
        refine (push_in hr1 hlen x).mono ?_
        rintro r w2 ⟨rfl, hr2, hk2⟩
        have hk2 := hk1.trans hk2
        rw [List.append_assoc, ← hst] at hr2
        clear hr1 hk1 hV hc
        go_wp2_with fail
        refine ⟨⟨j + 1, by omega, by go_num, hr2, hk2⟩, by simp [intOf]; omega⟩
    · obtain rfl : j = n := by omega
      rw [List.drop_of_length_le (by rw [HN.out]; exact Nat.le_refl _), List.nil_append, List.take_of_length_le (by rw [HN.out]; exact Nat.le_refl _)] at hr
      have hc2 : wr.cell? ⟨R, 2, none⟩ = some (.int .i64 ((keepL L s).length : Int)) := by
        obtain ⟨first, bufs, h1, _⟩ := hr
        exact (rg_cells h1).2.2
      go_wp2_with fail
      go_ret
      exact ⟨rfl, hr, hk⟩

end Go.Proofs.Ytleecgoppplioaa
