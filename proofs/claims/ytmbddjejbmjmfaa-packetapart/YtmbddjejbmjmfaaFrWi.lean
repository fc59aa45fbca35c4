/-
  A frame with another lane: what With returns, the code's and the document's.
  No condition.
-/
import Derived.Test.YtmbddjejbmjmfaaFrLn
namespace Go.Proofs.Ytmbddjejbmjmfaa
set_option maxRecDepth 10000
open Go.RowKit Go.Sort

theorem enCells_at (L : List En) (j : Nat) (e : En) (h : L[j]? = some e) (i : Nat) (hi : i < 6) : (enCells L)[j * 6 + i]? = e.vals[i]? := by
  induction L generalizing j with
  | nil => cases h
  | cons x L ih =>
    show (x.vals ++ enCells L)[j * 6 + i]? = _
    cases j with
    | zero =>
      simp only [List.getElem?_cons_zero, Option.some.injEq] at h
      subst h
      rw [List.getElem?_append_left (by rw [En.vals_length]; omega)]
      congr 1; omega
    | succ j =>
      rw [List.getElem?_append_right (by rw [En.vals_length]; omega), En.vals_length, show (j + 1) * 6 + i - 6 = j * 6 + i by omega]
      exact ih j (by simpa using h)

theorem range_at6 {w : World} {b o : Nat} {L : List En} (hr : w.rangeAt b o (enCells L)) (j : Nat) (e : En) (h : L[j]? = some e) : At6 b (o + j * 6) e.k e.sv e.g e.se e.n e.t w := by
  have g : ∀ i v, i < 6 → e.vals[i]? = some v → w.cell? ⟨b, o + j * 6 + i, none⟩ = some v := by
    intro i v hi hv
    rw [Nat.add_assoc]
    exact hr _ v ((enCells_at L j e h i hi).trans hv)
  exact ⟨g 0 _ (by omega) rfl, g 1 _ (by omega) rfl, g 2 _ (by omega) rfl, g 3 _ (by omega) rfl, g 4 _ (by omega) rfl, g 5 _ (by omega) rfl⟩

def stp (F : Nat → En) (t : Nat) (L : List En) (j : Nat) : Nat → En := fun y => if y / 2 = t ∧ y % 2 < j then L.getD (y % 2) En.zero else F y

theorem stp_set (F : Nat → En) (t : Nat) (L : List En) (j : Nat) (hj : j < 2) : (fun y => if y = 2 * t + j then L.getD j En.zero else stp F t L j y) = stp F t L (j + 1) := by
  funext y
  unfold stp
  by_cases h1 : y = 2 * t + j
  · have h2 : y / 2 = t ∧ y % 2 < j + 1 := by omega
    have h3 : y % 2 = j := by omega
    rw [if_pos h1, if_pos h2, h3]
  · rw [if_neg h1]
    by_cases h2 : y / 2 = t ∧ y % 2 < j
    · rw [if_pos h2, if_pos (by omega)]
    · rw [if_neg h2, if_neg (by omega)]

theorem stp_end (F : Nat → En) (t : Nat) (L : List En) : frc (stp F t L 2) = frc (withL F t L) := by
  apply frc_congr
  intro y _
  unfold stp withL
  by_cases h : y / 2 = t
  · rw [if_pos (by omega), if_pos (by omega)]
  · rw [if_neg (by omega), if_neg (by omega)]

set_option maxHeartbeats 2000000 in
theorem rfrWith (F : Nat → En) (n : Int) (a : Option Addr) (L : List En) (c : Nat) (w : World) (hL : Sl a L w) : Calls Try.prog 18 #[.agg (frc F), .int .i64 n, .slice a L.length c] w fun r w' =>
    r = .returned (.agg (frc (withL F n L))) ∧ Below w.heap.size w w' := by
  have hz : (w.alloc (.cells (frc F) 33)).heap.size = w.heap.size + 1 := by simp
  have hb2 := (below_box w (.cells (frc F) 33)).alloc (by simp) (.cells (frc zeroFr) 33)
  have hF := (blk_new w (frc F) 33).alloc (.cells (frc zeroFr) 33)
  have hR := blk_new (w.alloc (.cells (frc F) 33)) (frc zeroFr) 33
  rw [hz] at hR
  by_cases ht : 0 ≤ n ∧ n < 3
  · obtain ⟨t, rfl⟩ : ∃ t : Nat, n = (t : Int) := ⟨n.toNat, by omega⟩
    have ht3 : t < 3 := by omega
    have n0 : (0 : Int) ≤ (t : Int) := by omega
    have n3 : (t : Int) < 3 := by omega
    have n4 : ¬ (t : Int) < 0 := by omega
    have n5 : ¬ 2 < (t : Int) := by omega
    clear ht hz
    rw [← stp_end]
    obtain ⟨R, hRe⟩ : ∃ R, Hid (frc (stp F t L 2) = R) := ⟨_, rfl⟩
    rw [hRe.out]
    go_enter Try.func18, Try.ntmps18
    go_wp2_with (refine alloc_fr rfl rfl ?_)
    go_loopw [7] (fun i w' => ∃ j : Nat, j ≤ 2 ∧ i = .int .i64 j ∧ Below w.heap.size w w' ∧ Blk w.heap.size (frc (stp F t L j)) 33 w' ∧ Blk (w.heap.size + 1) (frc zeroFr) 33 w') (fun i _ => 2 - (intOf i).toNat)
    case atStart =>
      refine ⟨0, by omega, rfl, hb2, ?_, hR⟩
      have e : stp F t L 0 = F := by funext y; unfold stp; rw [if_neg (by omega)]
      rw [e]; exact hF
    case round =>
      clear hb2 hF hR
      obtain ⟨j, hj, rfl, hb, hF, hR⟩ := hrel
      by_cases hjl : j < 2
      · have j0 : (0 : Int) ≤ (j : Int) := by omega
        have j2 : (j : Int) < 2 := by omega
        have hO := hF.at6 (t * 12 + j * 6) (stp F t L j (2 * t + j)) (frc_part (stp F t L j) (2 * t + j) (t * 12 + j * 6) (by omega) (by omega))
        have hP := hF.free6 (t * 12 + j * 6)
        generalize stp F t L j (2 * t + j) = e0 at hO
        obtain ⟨q0, q1, q2, q3, q4, q5⟩ := hO
        obtain ⟨f0, f1, f2, f3, f4, f5⟩ := hP
        rename_i wr _ _
        have vs : ∀ (W : World) (k sv g : Int) (se n : Nat) (t0 : ByteArray), (((((W.setCell ⟨w.heap.size, t * 12 + j * 6, none⟩ (.int .i64 k)).setCell ⟨w.heap.size, t * 12 + j * 6 + 1, none⟩ (.int .i64 sv)).setCell ⟨w.heap.size, t * 12 + j * 6 + 2, none⟩ (.int .i64 g)).setCell ⟨w.heap.size, t * 12 + j * 6 + 3, none⟩ (.int .u64 se)).setCell ⟨w.heap.size, t * 12 + j * 6 + 4, none⟩ (.int .u64 n)).setCell ⟨w.heap.size, t * 12 + j * 6 + 5, none⟩ (.string t0) = W.setCells w.heap.size (t * 12 + j * 6) (En.vals ⟨k, sv, g, se, n, t0⟩) := fun _ _ _ _ _ _ _ => rfl
        have vz : (((((wr.setCell ⟨w.heap.size, t * 12 + j * 6, none⟩ (.int .i64 0)).setCell ⟨w.heap.size, t * 12 + j * 6 + 1, none⟩ (.int .i64 0)).setCell ⟨w.heap.size, t * 12 + j * 6 + 2, none⟩ (.int .i64 0)).setCell ⟨w.heap.size, t * 12 + j * 6 + 3, none⟩ (.int .u64 0)).setCell ⟨w.heap.size, t * 12 + j * 6 + 4, none⟩ (.int .u64 0)).setCell ⟨w.heap.size, t * 12 + j * 6 + 5, none⟩ (.string ⟨#[]⟩) = wr.setCells w.heap.size (t * 12 + j * 6) (En.vals ⟨0, 0, 0, 0, 0, ⟨#[]⟩⟩) := rfl
        have bz := below_cells (B := w.heap.size) (Nat.le_refl _) (En.vals ⟨0, 0, 0, 0, 0, ⟨#[]⟩⟩) (t * 12 + j * 6) hb
        have rz := hR.setCells_other (B := w.heap.size) (by omega) (En.vals ⟨0, 0, 0, 0, 0, ⟨#[]⟩⟩) (t * 12 + j * 6)
        have fz := hF.setCells (En.vals ⟨0, 0, 0, 0, 0, ⟨#[]⟩⟩) (t * 12 + j * 6)
        rw [frc_put (stp F t L j) ⟨0, 0, 0, 0, 0, ⟨#[]⟩⟩ (2 * t + j) (t * 12 + j * 6) (by omega) (by omega)] at fz
        by_cases hin : j < L.length
        · have i1 : (j : Int) < (L.length : Int) := by omega
          obtain ⟨e, he⟩ : ∃ e, L[j]? = some e := ⟨_, List.getElem?_eq_getElem hin⟩
          have hset := stp_set F t L j hjl
          rw [show L.getD j En.zero = e by simp [he]] at hset
          rcases hL with rfl | ⟨b, o, rfl, hlt, hr⟩
          · simp at hin
          generalize hn : L.length = ln at hin i1 ⊢
          go_wp2_with fail
          generalize wr.setCells w.heap.size (t * 12 + j * 6) (En.vals ⟨0, 0, 0, 0, 0, ⟨#[]⟩⟩) = W1 at bz rz fz ⊢
          clear q0 q1 q2 q3 q4 q5 f0 f1 f2 f3 f4 f5 hb hF hR
          have hS := range_at6 (w := W1) (b := b) (o := o) (L := L) (fun x v hv => by rw [bz.cell (p := ⟨b, o + x, none⟩) hlt]; exact hr x v hv) j e he
          have hO := fz.at6 (t * 12 + j * 6) ⟨0, 0, 0, 0, 0, ⟨#[]⟩⟩ (by
            have h := frc_part (fun y => if y = 2 * t + j then (⟨0, 0, 0, 0, 0, ⟨#[]⟩⟩ : En) else stp F t L j y) (2 * t + j) (t * 12 + j * 6) (by omega) (by omega)
            simp only [if_true] at h
            exact h)
          have hP := fz.free6 (t * 12 + j * 6)
          obtain ⟨k, sv, g, se, n, t0⟩ := e
          obtain ⟨p0, p1, p2, p3, p4, p5⟩ := hS
          obtain ⟨q0, q1, q2, q3, q4, q5⟩ := hO
          obtain ⟨f0, f1, f2, f3, f4, f5⟩ := hP
          have b5 := (below_cells (B := w.heap.size) (Nat.le_refl _) (En.vals ⟨k, sv, g, se, n, t0⟩) (t * 12 + j * 6) bz).drew
          have r5 := (rz.setCells_other (B := w.heap.size) (by omega) (En.vals ⟨k, sv, g, se, n, t0⟩) (t * 12 + j * 6)).drew
          have f5' := (fz.setCells (En.vals ⟨k, sv, g, se, n, t0⟩) (t * 12 + j * 6)).drew
          rw [frc_put _ ⟨k, sv, g, se, n, t0⟩ (2 * t + j) (t * 12 + j * 6) (by omega) (by omega)] at f5'
          have hset2 : (fun y => if y = 2 * t + j then (⟨k, sv, g, se, n, t0⟩ : En) else if y = 2 * t + j then (⟨0, 0, 0, 0, 0, ⟨#[]⟩⟩ : En) else stp F t L j y) = stp F t L (j + 1) := by
            rw [← hset]
            funext y
            by_cases hy : y = 2 * t + j
            · simp [hy]
            · simp [hy]
          rw [hset2] at f5'
          clear hset hset2 fz bz rz
          go_region
          all_goals go_wp2_with fail
          generalize (W1.setCells w.heap.size (t * 12 + j * 6) (En.vals ⟨k, sv, g, se, n, t0⟩)).drew = W5 at b5 r5 f5' ⊢
          refine ⟨⟨j + 1, by omega, by go_num, b5, f5', r5⟩, by simp [intOf]; omega⟩
        · have i1 : ¬ (j : Int) < (L.length : Int) := by omega
          have hset := stp_set F t L j hjl
          rw [show L.getD j En.zero = ⟨0, 0, 0, 0, 0, ⟨#[]⟩⟩ by simp [List.getElem?_eq_none (Nat.le_of_not_lt hin)]; rfl] at hset
          rw [hset] at fz
          clear hset
          go_wp2_with fail
          generalize wr.setCells w.heap.size (t * 12 + j * 6) (En.vals ⟨0, 0, 0, 0, 0, ⟨#[]⟩⟩) = W1 at bz rz fz ⊢
          refine ⟨⟨j + 1, by omega, by go_num, bz, fz, rz⟩, by simp [intOf]; omega⟩
      · obtain rfl : j = 2 := by omega
        have hRs := frc_size (stp F t L 2)
        have hR1 := frc_one (stp F t L 2)
        rw [hRe.out] at hF hRs hR1
        go_wp2_with (first | refine load_blk rfl 33 _ rfl hF rfl Try.underlying33 rfl (by rw [hRs]; exact size27) ?_ | refine store_blk rfl 33 _ _ rfl hR rfl rfl (by rw [hRs]; exact size27) (by rw [hRs, frc_size]) hR1 ?_)
        refine bodyPost_ret (ret_one Try.results18 rfl (hR.setRow R) hRs) rfl ⟨rfl, below_setRow hb (by omega) _⟩
  · rw [withL_no F n L ht]
    clear hz
    by_cases hneg : n < 0
    · go_enter Try.func18, Try.ntmps18
      go_wp2_with (first | refine alloc_fr rfl rfl ?_ | refine load_blk rfl 33 _ rfl hF rfl Try.underlying33 rfl (by rw [frc_size]; exact size27) ?_ | refine store_blk rfl 33 _ _ rfl hR rfl rfl (by rw [frc_size]; exact size27) (by rw [frc_size, frc_size]) (frc_one _) ?_)
      refine bodyPost_ret (ret_one Try.results18 rfl (hR.setRow (frc F)) (frc_size _)) rfl ⟨rfl, below_setRow hb2 (by omega) _⟩
    · have hbig : 2 < n := by omega
      go_enter Try.func18, Try.ntmps18
      go_wp2_with (first | refine alloc_fr rfl rfl ?_ | refine load_blk rfl 33 _ rfl hF rfl Try.underlying33 rfl (by rw [frc_size]; exact size27) ?_ | refine store_blk rfl 33 _ _ rfl hR rfl rfl (by rw [frc_size]; exact size27) (by rw [frc_size, frc_size]) (frc_one _) ?_)
      refine bodyPost_ret (ret_one Try.results18 rfl (hR.setRow (frc F)) (frc_size _)) rfl ⟨rfl, below_setRow hb2 (by omega) _⟩

end Go.Proofs.Ytmbddjejbmjmfaa
