/-
  What Push returns, and what a ring holds behind it.
  Condition: the ring holds a list.
-/
import Derived.Test.YtleecgoppplioaaRgB
namespace Go.Proofs.Ytleecgoppplioaa
set_option maxRecDepth 10000
open Go.RowKit Go.Sort

theorem mod_if {a i n : Nat} (ha : a < n) (hi : i < n) : (a + i) % n = if a + i < n then a + i else a + i - n := by
  split
  · exact Nat.mod_eq_of_lt (by assumption)
  · rw [Nat.mod_eq_sub_mod (by omega), Nat.mod_eq_of_lt (by omega)]

def Pushed (R G room : Nat) (L : List En) (e : En) (w : World) (r : Ending) (w' : World) : Prop :=
  r = .returned (.bool (decide (L.length < room))) ∧ Rg R G room (if L.length < room then L ++ [e] else L) w' ∧ Kp [R, G] w w'

theorem bufs_push {room first : Nat} {bufs L : List En} (e : En) (hl : bufs.length = room) (hL : L.length < room) (hf : first < room) (h : ∀ i x, L[i]? = some x → bufs[(first + i) % room]? = some x) :
    ∀ i x, (L ++ [e])[i]? = some x → (bufs.set ((first + L.length) % room) e)[(first + i) % room]? = some x := by
  intro i x hx
  have hp : (first + L.length) % room < bufs.length := by rw [hl]; exact Nat.mod_lt _ (by omega)
  by_cases hi : i < L.length
  · rw [List.getElem?_append_left hi] at hx
    rw [List.getElem?_set_ne]
    · exact h i x hx
    · rw [mod_if hf hL, mod_if hf (by omega)]
      split <;> split <;> omega
  · have hi2 : i < (L ++ [e]).length := (List.getElem?_eq_some_iff.1 hx).1
    obtain rfl : i = L.length := by simp at hi2; omega
    simp at hx
    subst hx
    exact List.getElem?_set_self hp

set_option maxHeartbeats 2000000 in
theorem push_full {R G room : Nat} {L : List En} {w : World} (h : Rg R G room L w) (hL : L.length = room) (e : En) : Calls Try.prog 10 #[.pointer (some ⟨R, 0, none⟩), .agg e.arr] w (Pushed R G room L e w) := by
  have hrg := h
  have hle := h.le
  obtain ⟨first, bufs, h1, _⟩ := h
  rw [hL] at h1
  obtain ⟨c0, c1, c2⟩ := rg_cells (h1.alloc (.cells e.arr 30))
  have hs := e.arr_size
  have ho := e.arr_one
  have hb0 := below_box w (.cells e.arr 30)
  have hfin : ∀ w', Below w.heap.size w w' → Pushed R G room L e w (.returned (.bool false)) w' := fun w' hb => ⟨by rw [decide_eq_false (by omega)], by rw [if_neg (by omega)]; exact hrg.below hb, Kp.of_below hb⟩
  clear h1 hrg hL
  generalize e.arr = C at *
  go_enter Try.func10, Try.ntmps10
  go_wp2_with fail
  go_quiet (fail)
  have hb := hb0.trans (below_draws w.heap.size _ nq)
  generalize (w.alloc (.cells C 30)).drewN nq = w2 at hb ⊢
  go_wp2_with fail
  go_ret
  exact hfin _ hb

theorem held_below {B0 R G room first many : Nat} {C D : Array Value} {w w1 w2 : World} (h : Blk B0 C 30 w1 ∧ Blk R (rgc G room first many) 50 w1 ∧ Blk G D 30 w1 ∧ Kp [] w w1) (hb : Below w1.heap.size w1 w2) :
    Blk B0 C 30 w2 ∧ Blk R (rgc G room first many) 50 w2 ∧ Blk G D 30 w2 ∧ Kp [] w w2 := ⟨h.1.below hb, h.2.1.below hb, h.2.2.1.below hb, h.2.2.2.trans (Kp.of_below hb)⟩

set_option maxHeartbeats 2000000 in
theorem push_room {R G room : Nat} {L : List En} {w : World} (h : Rg R G room L w) (hL : L.length < room) (e : En) : Calls Try.prog 10 #[.pointer (some ⟨R, 0, none⟩), .agg e.arr] w (Pushed R G room L e w) := by
  have hle := h.le
  obtain ⟨first, bufs, h1, h2, hne, hbl, _, hr64, hf0, hall⟩ := h
  have hf : first < room := by omega
  have hrp := bufs_push e hbl hL hf hall
  obtain ⟨p, hp⟩ : ∃ p, (first + L.length) % room = p := ⟨_, rfl⟩
  have hplt : p < room := by rw [← hp]; exact Nat.mod_lt _ (by omega)
  have hset := flat_set En.vals_length (by decide) bufs p (by omega) e
  rw [hp] at hrp
  have hfin : ∀ w3 w4, Blk R (rgc G room first L.length) 50 w3 → Blk G (putAt (flat En.vals bufs).toArray (p * 6) e.arr.toList) 30 w3 → Kp [G] w w3 → w4 = w3.setCell ⟨R, 2, none⟩ (.int .i64 ((L.length : Int) + 1)) → Pushed R G room L e w (.returned (.bool true)) w4 := by
    rintro w3 w4 a1 a2 a3 rfl
    refine ⟨by rw [decide_eq_true hL], ?_, ?_⟩
    · rw [if_pos hL]
      refine ⟨first, bufs.set p e, ?_, ?_, hne, by rw [List.length_set]; exact hbl, by simp; omega, hr64, hf0, hrp⟩
      · have := a1.set 2 (.int .i64 ((L.length : Int) + 1))
        simpa [rgc] using this
      · have := a2.set_other (fun e => hne e.symm) 2 (.int .i64 ((L.length : Int) + 1))
        rw [← hset]
        exact this
    · exact Kp.trans ⟨a3.os, a3.tape, a3.output, a3.size, fun k hk hs => a3.block k hk (by simp at hs ⊢; exact hs.2)⟩ (Kp.setCell R 2 w3 _ (by simp))
  have hs := e.arr_size
  have ho := e.arr_one
  have s0 : Blk w.heap.size e.arr 30 (w.alloc (.cells e.arr 30)) ∧ Blk R (rgc G room first L.length) 50 (w.alloc (.cells e.arr 30)) ∧ Blk G (flat En.vals bufs).toArray 30 (w.alloc (.cells e.arr 30)) ∧ Kp [] w (w.alloc (.cells e.arr 30)) :=
    ⟨blk_new _ _ _, h1.alloc _, h2.alloc _, Kp.alloc _ _ _⟩
  have hDs : (flat En.vals bufs).toArray.size = room * 6 := by rw [List.size_toArray, flat_length En.vals_length, hbl]
  have hlt := h1.lt
  have hGlt := h2.lt
  clear h1 h2 hall hset hrp hbl
  generalize (flat En.vals bufs).toArray = D at *
  generalize e.arr = C at *
  generalize hmany : L.length = many at *
  clear hmany hle
  have hm64 : many ≤ 64 := by omega
  obtain ⟨c0, c1, c2⟩ := rg_cells s0.2.1
  have kne : ¬ (many : Int) = (room : Int) := by omega
  have hC6 : (Try.prog.info? 30).map (·.size) = some C.toList.length := by rw [Array.length_toList, hs]; exact sizeEn
  have p0 : (0 : Int) ≤ (p : Int) := by omega
  have p1 : (p : Int) < (room : Int) := by omega
  obtain ⟨B0, hB0⟩ : ∃ B0, B0 = w.heap.size := ⟨_, rfl⟩
  go_enter Try.func10, Try.ntmps10
  go_wp2_with fail
  go_quiet (fail)
  have s1 := held_below s0 (below_draws _ _ nq)
  generalize (w.alloc (.cells C 30)).drewN nq = w1 at s1 ⊢
  rw [← hB0] at s1 ⊢
  have hBG : B0 ≠ G := by rw [hB0]; exact fun e => by have := hGlt; omega
  clear s0 c0 c1 c2
  go_wp2_with fail
  refine wp_region_held_drew (S := fun w' => Blk B0 C 30 w' ∧ Blk R (rgc G room first many) 50 w') (by kernel_rfl) ⟨s1.1.drew, s1.2.1.drew⟩ (fun hHeld => ?_)
  refine wpAnyH_take (i := 0) (v := ?v1) rfl (by kernel_rfl) (by kernel_rfl) (by kernel_rfl) (fun _ _ _ h => h) (Or.inl ⟨by rfl, ?hy1⟩) hHeld ?rest1
  case hy1 => (intro w hSw; clear hSw; go_simp; try with_reducible rfl)
  try simp only [List.getElem_toArray]
  try simp only [List.getElem_cons_succ]
  try simp only [List.getElem_cons_zero]
  try simp only [Act.put]
  try simp only [List.setIfInBounds_toArray]
  try simp only [List.set_cons_succ]
  try simp only [List.set_cons_zero]
  refine wpAnyH_take (i := 1) (v := ?v2) rfl (by kernel_rfl) (by kernel_rfl) (by kernel_rfl) (fun _ _ _ h => h) (Or.inl ⟨by rfl, ?hy2⟩) hHeld ?rest2
  case hy2 => (intro w hSw; clear hSw; go_simp; try with_reducible rfl)
  try simp only [List.getElem_toArray]
  try simp only [List.getElem_cons_succ]
  try simp only [List.getElem_cons_zero]
  try simp only [Act.put]
  try simp only [List.setIfInBounds_toArray]
  try simp only [List.set_cons_succ]
  try simp only [List.set_cons_zero]
  refine wpAnyH_take (i := 2) (v := ?v3) rfl (by kernel_rfl) (by kernel_rfl) (by kernel_rfl) (fun _ _ _ h => h) (Or.inl ⟨by rfl, ?hy3⟩) hHeld ?rest3
  case hy3 => (intro w hSw; clear hSw; go_simp; try with_reducible rfl)
  try simp only [List.getElem_toArray]
  try simp only [List.getElem_cons_succ]
  try simp only [List.getElem_cons_zero]
  try simp only [Act.put]
  try simp only [List.setIfInBounds_toArray]
  try simp only [List.set_cons_succ]
  try simp only [List.set_cons_zero]
  refine wpAnyH_take (i := 3) (v := ?v4) rfl (by kernel_rfl) (by kernel_rfl) (by kernel_rfl) (fun _ _ _ h => h) (Or.inl ⟨by rfl, ?hy4⟩) hHeld ?rest4
  case hy4 => (intro w hSw; obtain ⟨c0, c1, c2⟩ := rg_cells hSw.2; clear hSw; go_simp; try with_reducible rfl)
  try simp only [List.getElem_toArray]
  try simp only [List.getElem_cons_succ]
  try simp only [List.getElem_cons_zero]
  try simp only [Act.put]
  try simp only [List.setIfInBounds_toArray]
  try simp only [List.set_cons_succ]
  try simp only [List.set_cons_zero]
  refine wpAnyH_take (i := 4) (v := ?v5) rfl (by kernel_rfl) (by kernel_rfl) (by kernel_rfl) (fun _ _ _ h => h) (Or.inl ⟨by rfl, ?hy5⟩) hHeld ?rest5
  case hy5 => (intro w hSw; clear hSw; go_simp; try with_reducible rfl)
  try simp only [List.getElem_toArray]
  try simp only [List.getElem_cons_succ]
  try simp only [List.getElem_cons_zero]
  try simp only [Act.put]
  try simp only [List.setIfInBounds_toArray]
  try simp only [List.set_cons_succ]
  try simp only [List.set_cons_zero]
  refine wpAnyH_take (i := 5) (v := ?v6) rfl (by kernel_rfl) (by kernel_rfl) (by kernel_rfl) (fun _ _ _ h => h) (Or.inl ⟨by rfl, ?hy6⟩) hHeld ?rest6
  case hy6 => (intro w hSw; clear hSw; go_simp; try with_reducible rfl)
  try simp only [List.getElem_toArray]
  try simp only [List.getElem_cons_succ]
  try simp only [List.getElem_cons_zero]
  try simp only [Act.put]
  try simp only [List.setIfInBounds_toArray]
  try simp only [List.set_cons_succ]
  try simp only [List.set_cons_zero]
  refine wpAnyH_take (i := 6) (v := ?v7) rfl (by kernel_rfl) (by kernel_rfl) (by kernel_rfl) (fun _ _ _ h => h) (Or.inl ⟨by rfl, ?hy7⟩) hHeld ?rest7
  case hy7 => (intro w hSw; clear hSw; go_simp; try with_reducible rfl)
  try simp only [List.getElem_toArray]
  try simp only [List.getElem_cons_succ]
  try simp only [List.getElem_cons_zero]
  try simp only [Act.put]
  try simp only [List.setIfInBounds_toArray]
  try simp only [List.set_cons_succ]
  try simp only [List.set_cons_zero]
  refine wpAnyH_take (i := 7) (v := ?v8) rfl (by kernel_rfl) (by kernel_rfl) (by kernel_rfl) (fun _ _ _ h => h) (Or.inl ⟨by rfl, ?hy8⟩) hHeld ?rest8
  case hy8 => (intro w hSw; clear hSw; go_simp; try with_reducible rfl)
  try simp only [List.getElem_toArray]
  try simp only [List.getElem_cons_succ]
  try simp only [List.getElem_cons_zero]
  try simp only [Act.put]
  try simp only [List.setIfInBounds_toArray]
  try simp only [List.set_cons_succ]
  try simp only [List.set_cons_zero]
  refine wpAnyH_take (i := 8) (v := ?v9) rfl (by kernel_rfl) (by kernel_rfl) (by kernel_rfl) (fun _ _ _ h => h) (Or.inl ⟨by rfl, ?hy9⟩) hHeld ?rest9
  case hy9 => (intro w hSw; obtain ⟨c0, c1, c2⟩ := rg_cells hSw.2; clear hSw; go_simp; try with_reducible rfl)
  try simp only [List.getElem_toArray]
  try simp only [List.getElem_cons_succ]
  try simp only [List.getElem_cons_zero]
  try simp only [Act.put]
  try simp only [List.setIfInBounds_toArray]
  try simp only [List.set_cons_succ]
  try simp only [List.set_cons_zero]
  refine' wpAnyH_take (i := 10) (v := _) rfl (by kernel_rfl) (by kernel_rfl) (by kernel_rfl) (fun _ _ _ h => h) (yieldsIf_load_mid (by rfl) _ _ rfl B0 0 rfl C.toList _ ?hS10 Try.underlying30 rfl hC6) hHeld ?rest10
  case hS10 => exact fun w h => by simpa using h.1.whole
  try simp only [List.getElem_toArray]
  try simp only [List.getElem_cons_succ]
  try simp only [List.getElem_cons_zero]
  try simp only [Act.put]
  try simp only [List.setIfInBounds_toArray]
  try simp only [List.set_cons_succ]
  try simp only [List.set_cons_zero]
  refine wpAnyH_ready (rs := [9]) (by kernel_rfl) (by simp) ?_
  refine AllReadyH.cons rfl (fun K hK => ?_) (AllReadyH.nil)
  go_simp
  go_wp2_with (refine (place_ok hHeld.2 hr64 hf many hm64).mono ?_; rintro r w2 ⟨rfl, hb2⟩)
  have s2 := held_below ⟨s1.1.drew, s1.2.1.drew, s1.2.2.1.drew, s1.2.2.2.trans (Kp.drew _ _)⟩ hb2
  clear hHeld hb2 s1
  refine hK.out _ _ ⟨s2.1, s2.2.1⟩ (fun hHeld => ?_)
  clear hK K
  refine wpAnyH_take (i := 11) (v := ?v11) rfl (by kernel_rfl) (by kernel_rfl) (by kernel_rfl) (fun _ _ _ h => h) (Or.inl ⟨by rfl, ?hy11⟩) hHeld ?rest11
  case hy11 => (intro w hSw; clear hSw; go_simp; try with_reducible rfl)
  try simp only [List.getElem_toArray]
  try simp only [List.getElem_cons_succ]
  try simp only [List.getElem_cons_zero]
  try simp only [Act.put]
  try simp only [List.setIfInBounds_toArray]
  try simp only [List.set_cons_succ]
  try simp only [List.set_cons_zero]
  obtain ⟨W, hW⟩ : ∃ W, Hid (w2.setCells G (p * 6) C.toList = W) := ⟨_, rfl⟩
  have k0 : Blk B0 C 30 W := by rw [← hW.out]; exact s2.1.setCells_other hBG _ _
  have k1 : Blk R (rgc G room first many) 50 W := by rw [← hW.out]; exact s2.2.1.setCells_other hne _ _
  have k2 : Blk G (putAt D (p * 6) C.toList) 30 W := by rw [← hW.out]; exact s2.2.2.1.setCells _ _
  have k3 : Kp [G] w W := by rw [← hW.out]; exact Kp.trans ⟨s2.2.2.2.os, s2.2.2.2.tape, s2.2.2.2.output, s2.2.2.2.size, fun k hk _ => s2.2.2.2.block k hk (by simp)⟩ (Kp.setCells G (by simp) _ _ _)
  refine wpAnyH_ready (rs := [12]) (by kernel_rfl) (by simp) ?_
  refine AllReadyH.cons rfl (fun K hK => ?_) (AllReadyH.nil)
  rw [if_pos (by rfl)]
  refine wp_store_mid 30 _ _ rfl G (p * 6) C rfl rfl (s2.2.2.1.there (p * 6) _ (by rw [hs]; omega)) (by rw [hs]; exact sizeEn) ho ?_
  rw [hW.out]
  refine hK.out _ _ ⟨k0, k1⟩ (fun hHeld => ?_)
  clear hK K
  try simp only [List.getElem_toArray]
  try simp only [List.getElem_cons_succ]
  try simp only [List.getElem_cons_zero]
  try simp only [Act.put]
  try simp only [List.setIfInBounds_toArray]
  try simp only [List.set_cons_succ]
  try simp only [List.set_cons_zero]
  refine wpAnyH_done (by kernel_rfl) ?_ _
  obtain ⟨c0, c1, c2⟩ := rg_cells k1
  have f2 := k1.free 2
  clear hHeld k0 s2
  go_wp2_with fail
  go_ret
  exact hfin _ _ k1 k2 k3 rfl

end Go.Proofs.Ytleecgoppplioaa
