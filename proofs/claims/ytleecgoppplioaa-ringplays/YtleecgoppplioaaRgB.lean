/-
  What New returns: a ring with as many buffers as it is asked for, none of them taken, or none.
  No condition.
-/
import Derived.Test.YtleecgoppplioaaRgA
namespace Go.Proofs.Ytleecgoppplioaa
set_option maxRecDepth 10000
open Go.RowKit Go.Sort

theorem infoEn0 : ∃ i, Try.prog.info? 30 = some i ∧ i.zero = some (.agg En.zero.arr) ∧ i.size = 6 ∧ i.bytes = 56 := by
  have h : (Try.prog.info? 30).map (fun i => (i.zero, i.size, i.bytes)) = some (some (.agg En.zero.arr), 6, 56) := by kernel_rfl
  obtain ⟨i, hi, h0, h1, h2⟩ := info_parts h
  exact ⟨i, hi, h0, h1, h2⟩

def Made (n : Nat) (w : World) (r : Ending) (w' : World) : Prop := ∃ R G, r = .returned (.tuple #[.pointer (some ⟨R, 0, none⟩), .bool true]) ∧ w.heap.size ≤ R ∧ w.heap.size ≤ G ∧ Rg R G n [] w' ∧ Below w.heap.size w w'

set_option maxHeartbeats 1000000 in
theorem new_ok (n : Nat) (hn : n ≤ 64) (w : World) : Calls Try.prog 7 #[.int .i64 (n : Int)] w (Made n w) := by
  obtain ⟨i, hi, hz, hs, hby⟩ := infoEn0
  have k0 : ¬ (n : Int) < 0 := by omega
  have k1 : ¬ (64 : Int) < (n : Int) := by omega
  have hG := blk_new w (flat En.vals (List.replicate n En.zero)).toArray 30
  have hb := below_box w (.cells (flat En.vals (List.replicate n En.zero)).toArray 30)
  have hsz : (w.alloc (.cells (flat En.vals (List.replicate n En.zero)).toArray 30)).heap.size = w.heap.size + 1 := by simp
  have hR := blk_new (w.alloc (.cells (flat En.vals (List.replicate n En.zero)).toArray 30)) (rgc w.heap.size n 0 0) 50
  have hG2 := hG.alloc (.cells (rgc w.heap.size n 0 0) 50)
  have hb2 := hb.alloc hb.size (.cells (rgc w.heap.size n 0 0) 50)
  rw [hsz] at hR
  clear hG hb hsz
  generalize hC : (flat En.vals (List.replicate n En.zero)).toArray = C at hR hG2 hb2
  have HC : Hid ((flat En.vals (List.replicate n En.zero)).toArray = C) := hC
  clear hC
  go_enter Try.func7, Try.ntmps7
  go_wp2_with (at_make; refine make_li En.vals_length (by decide) En.zero rfl _ _ rfl Try.underlying27 hi hz hs hby rfl n rfl rfl (by omega) (by unfold maxLen; omega) ?_; rw [HC.out])
  go_ret2
  refine ⟨_, w.heap.size, rfl, by omega, Nat.le_refl _, ⟨0, List.replicate n En.zero, hR, by rw [HC.out]; exact hG2, by omega, by simp, by simp, hn, by omega, fun i x hx => by simp at hx⟩, hb2⟩

theorem new_no (n : Int) (hn : n < 0 ∨ 64 < n) (w : World) : Calls Try.prog 7 #[.int .i64 n] w fun r w' =>
    r = .returned (.tuple #[.pointer none, .bool false]) ∧ w' = w := by
  by_cases h : n < 0
  · go_enter Try.func7, Try.ntmps7
    go_wp2_with fail
    go_ret2
    exact ⟨rfl, rfl⟩
  · have h2 : 64 < n := by omega
    go_enter Try.func7, Try.ntmps7
    go_wp2_with fail
    go_ret2
    exact ⟨rfl, rfl⟩

end Go.Proofs.Ytleecgoppplioaa
