/-
  What stands in a tenant's lane: what Lane returns, the code's and the document's.
  No condition.
-/
import Derived.Test.YtmbddjejbmjmfaaFrWi
import Derived.Laws.AppendOwn
namespace Go.Proofs.Ytmbddjejbmjmfaa
set_option maxRecDepth 10000
open Go.RowKit Go.Sort

def En.isZero (e : En) : Bool := decide (e.k = 0 ∧ e.sv = 0 ∧ e.g = 0 ∧ (e.se : Int) = 0 ∧ (e.n : Int) = 0 ∧ e.t = ⟨#[]⟩)
def laneUp (F : Nat → En) (t : Nat) : Nat → List En
  | 0 => []
  | j + 1 => laneUp F t j ++ (if (F (2 * t + j)).isZero then [] else [F (2 * t + j)])
def laneL (F : Nat → En) (n : Int) : List En := if 0 ≤ n ∧ n < 3 then laneUp F n.toNat 2 else []

theorem laneUp_le (F : Nat → En) (t j : Nat) : (laneUp F t j).length ≤ j := by
  induction j with
  | zero => exact Nat.le_refl _
  | succ j ih =>
    show (laneUp F t j ++ _).length ≤ _
    rw [List.length_append]
    split
    · simp only [List.length_nil]; omega
    · simp only [List.length_cons, List.length_nil]; omega

theorem info24b : ∃ i z, Try.prog.info? 30 = some i ∧ i.zero = some z ∧ i.size = 6 ∧ i.bytes = 56 ∧ z.cells.size = 6 := by
  have h : (Try.prog.info? 30).map (fun i => (i.zero, i.size, i.bytes)) = some (some (.agg En.zero.vals.toArray), 6, 56) := by kernel_rfl
  obtain ⟨i, hi, h0, h1, h2⟩ := info_parts h
  exact ⟨i, _, hi, h0, h1, h2, rfl⟩

theorem own_sl {w : World} {B n : Nat} {v : Value} {L : List En} (h : w.ownsRow B 30 6 v n (enCells L)) : n = L.length ∧ ∃ a c, v = .slice a L.length c ∧ Sl a L w := by
  have hn : n = L.length := by have h1 := h.1; rw [enCells_length] at h1; omega
  subst hn
  refine ⟨rfl, ?_⟩
  rcases h.2 with ⟨rfl, h0⟩ | ⟨g, cap, cur, rfl, _, hg, _, _, hsz, htk⟩
  · have hL : L = [] := List.length_eq_zero_iff.1 h0
    subst hL
    exact ⟨none, 0, rfl, .inl rfl⟩
  · refine ⟨some ⟨g, 0, none⟩, cap, rfl, .inr ⟨g, 0, rfl, ?_, fun j u hu => ?_⟩⟩
    · rcases Nat.lt_or_ge g w.heap.size with h' | h'
      · exact h'
      · simp [Array.getElem?_eq_none h'] at hg
    · rw [cell_of_row w g (0 + j) cur 30 (0, 0) hg, Nat.zero_add]
      rw [← htk, List.getElem?_take] at hu
      split at hu
      · simpa using hu
      · cases hu

theorem own_below {w w' : World} {B n : Nat} {v : Value} {xs : List Value} (h : w.ownsRow B 30 6 v n xs) (hb : Below w.heap.size w w') : w'.ownsRow B 30 6 v n xs := by
  refine ⟨h.1, ?_⟩
  rcases h.2 with h1 | ⟨g, cap, cur, hv, hbase, hg, hrest⟩
  · exact .inl h1
  · have hgl : g < w.heap.size := by
      rcases Nat.lt_or_ge g w.heap.size with h' | h'
      · exact h'
      · simp [Array.getElem?_eq_none h'] at hg
    exact .inr ⟨g, cap, cur, hv, hbase, (hb.block g hgl).trans hg, hrest⟩

theorem news_at (w : World) (e : En) : ∀ j u, e.vals[j]? = some u → (w.alloc (.cells e.vals.toArray 30)).cell? ((⟨w.heap.size, 0, none⟩ : Addr).add j) = some u := by
  intro j u hu
  rw [Addr.add_mid, cell_of_row _ _ (0 + j) e.vals.toArray 30 (0, 0) (blk_new w _ _), Nat.zero_add]
  simpa using hu

set_option maxHeartbeats 2000000 in
theorem rfrLane_in (F : Nat → En) (t : Nat) (ht : t < 3) (w : World) : Calls Try.prog 19 #[.agg (frc F), .int .i64 (t : Int)] w fun r w' =>
    ∃ a c, r = .returned (.slice a (laneUp F t 2).length c) ∧ Sl a (laneUp F t 2) w' ∧ Below w.heap.size w w' := by
  obtain ⟨i24, z24, hi, hiz, his, hib, hzs⟩ := info24b
  have n0 : (0 : Int) ≤ (t : Int) := by omega
  have n3 : (t : Int) < 3 := by omega
  have n4 : ¬ (t : Int) < 0 := by omega
  have n5 : ¬ 2 < (t : Int) := by omega
  have hB := (blk_new w (frc F) 33).alloc (.cells #[] 30)
  have hb0 := (below_box w (.cells (frc F) 33)).alloc (by simp) (.cells #[] 30)
  have hz0 : (w.alloc (.cells (frc F) 33)).heap.size = w.heap.size + 1 := by simp
  have hE := blk_new (w.alloc (.cells (frc F) 33)) #[] 30
  rw [hz0] at hE
  clear hz0
  go_enter Try.func19, Try.ntmps19
  go_wp2_with fail
  go_loopw [5, 6] (fun l i w' => ∃ j : Nat, j ≤ 2 ∧ i = .int .i64 j ∧ Below w.heap.size w w' ∧ Blk w.heap.size (frc F) 33 w' ∧ w'.ownsRow (w.heap.size + 1) 30 6 l (laneUp F t j).length (enCells (laneUp F t j))) (fun _ i _ => 2 - (intOf i).toNat)
  case atStart => exact ⟨0, by omega, rfl, hb0, hB, rfl, .inr ⟨w.heap.size + 1, 0, #[], rfl, Nat.le_refl _, hE, Nat.le_refl _, Nat.zero_le _, rfl, rfl⟩⟩
  case round =>
    clear hB hb0 hE
    obtain ⟨j, hj, rfl, hb, hB, hown⟩ := hrel
    by_cases hjl : j < 2
    · have j0 : (0 : Int) ≤ (j : Int) := by omega
      have j2 : (j : Int) < 2 := by omega
      have hO := hB.at6 (t * 12 + j * 6) (F (2 * t + j)) (frc_part F (2 * t + j) (t * 12 + j * 6) (by omega) (by omega))
      have hup : laneUp F t (j + 1) = laneUp F t j ++ (if (F (2 * t + j)).isZero then [] else [F (2 * t + j)]) := rfl
      have hle := laneUp_le F t j
      generalize he : F (2 * t + j) = e at hO hup
      obtain ⟨q0, q1, q2, q3, q4, q5⟩ := hO
      have kne := neq_ent e.k e.sv e.g e.se e.n e.t 0 0 0 0 0 ⟨#[]⟩ e.isZero rfl
      cases hz : e.isZero
      · rw [hz] at kne hup
        have hb1 := hb.alloc hb.size (.cells e.vals.toArray 30)
        have hB1 := hB.alloc (.cells e.vals.toArray 30)
        have hown1 := own_below hown (below_box wr (.cells e.vals.toArray 30))
        have hnw := news_at wr e
        have hsz1 : w.heap.size + 1 ≤ (wr.alloc (.cells e.vals.toArray 30)).heap.size := by have := hb.size; simp; omega
        clear hb hown
        go_wp2_with (at_builtin; refine wpList_append_own _ rfl _ _ 50 rfl (w.heap.size + 1) 30 i24 z24 6 56 Try.underlying50 hi hiz his hib hzs (by decide) _ _ _ rfl hown1 ⟨wr.heap.size, 0, none⟩ 1 1 e.vals rfl rfl hnw e.vals_one ?_ ?_ ?_ ?_)
        · unfold maxLen; omega
        · omega
        · exact hsz1
        intro v' w2 hown2 hgrow _
        have hb2 := hb1.grown hgrow hb1.size (fun k hk => Nat.le_trans (Nat.le_succ _) (hown1.lt k hk).1)
        have hB2 : Blk w.heap.size (frc F) 33 w2 := (hgrow.block w.heap.size hB1.lt (fun e => by have := (hown1.lt _ e.symm).1; omega)).trans hB1
        have hcat : enCells (laneUp F t (j + 1)) = enCells (laneUp F t j) ++ e.vals := by rw [hup]; simp [enCells]
        have hln : (laneUp F t (j + 1)).length = (laneUp F t j).length + 1 := by rw [hup]; simp
        rw [← hcat, ← hln] at hown2
        clear hb1 hown1 hnw hgrow hcat hln hup q0 q1 q2 q3 q4 q5
        go_wp2_with fail
        refine ⟨⟨j + 1, by omega, by go_num, hb2, hB2, hown2⟩, by simp [intOf]; omega⟩
      · rw [hz] at kne hup
        have hup2 : laneUp F t (j + 1) = laneUp F t j := by rw [hup]; simp
        rw [← hup2] at hown
        clear hup hup2
        go_wp2_with fail
        refine ⟨⟨j + 1, by omega, by go_num, hb, hB, hown⟩, by simp [intOf]; omega⟩
    · obtain rfl : j = 2 := by omega
      obtain ⟨_, a, c, rfl, hsl⟩ := own_sl hown
      go_wp2_with fail
      go_ret
      exact ⟨a, ⟨c, rfl⟩, hsl, hb⟩

set_option maxHeartbeats 1000000 in
theorem rfrLane (F : Nat → En) (n : Int) (w : World) : Calls Try.prog 19 #[.agg (frc F), .int .i64 n] w fun r w' =>
    ∃ a c, r = .returned (.slice a (laneL F n).length c) ∧ Sl a (laneL F n) w' ∧ Below w.heap.size w w' := by
  by_cases hn : 0 ≤ n ∧ n < 3
  · obtain ⟨t, rfl⟩ : ∃ t : Nat, n = (t : Int) := ⟨n.toNat, by omega⟩
    have e : laneL F (t : Int) = laneUp F t 2 := by unfold laneL; rw [if_pos hn]; rfl
    rw [e]
    exact rfrLane_in F t (by omega) w
  · have e : laneL F n = [] := by unfold laneL; rw [if_neg hn]
    rw [e]
    have hb0 := (below_box w (.cells (frc F) 33)).alloc (by simp) (.cells #[] 30)
    by_cases hneg : n < 0
    · go_enter Try.func19, Try.ntmps19
      go_wp2_with fail
      go_ret
      first | exact ⟨_, ⟨0, rfl⟩, .inl rfl, hb0⟩ | exact ⟨_, 0, rfl, .inl rfl, hb0⟩
    · have hbig : 2 < n := by omega
      go_enter Try.func19, Try.ntmps19
      go_wp2_with fail
      go_ret
      first | exact ⟨_, ⟨0, rfl⟩, .inl rfl, hb0⟩ | exact ⟨_, 0, rfl, .inl rfl, hb0⟩

end Go.Proofs.Ytmbddjejbmjmfaa
