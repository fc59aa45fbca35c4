/-
  What Pop returns, and what a ring holds behind it.
  Condition: the ring holds a list.
-/
import Derived.Test.YtleecgoppplioaaRgC
namespace Go.Proofs.Ytleecgoppplioaa
set_option maxRecDepth 10000
open Go.RowKit Go.Sort

def Popped (R G room : Nat) (L : List En) (w : World) (r : Ending) (w' : World) : Prop :=
  r = .returned (.tuple #[.agg (L.headD En.zero).arr, .bool (!L.isEmpty)]) ∧ Rg R G room L.tail w' ∧ Kp [R, G] w w'

theorem bufs_pop {room first : Nat} {bufs M : List En} {x z : En} (hL : M.length < room) (hf : first < room) (h : ∀ i y, (x :: M)[i]? = some y → bufs[(first + i) % room]? = some y) :
    ∀ i y, M[i]? = some y → (bufs.set first z)[((first + 1) % room + i) % room]? = some y := by
  intro i y hy
  have hi : i < M.length := (List.getElem?_eq_some_iff.1 hy).1
  have h1 := h (i + 1) y (by simpa using hy)
  rw [Nat.mod_add_mod, Nat.add_assoc, Nat.add_comm 1 i]
  rw [List.getElem?_set_ne]
  · exact h1
  · rw [mod_if hf (by omega)]
    split <;> omega

theorem sizeI : (Try.prog.info? 3).map (·.size) = some 1 := by kernel_rfl

set_option maxHeartbeats 2000000 in
theorem pop_none {R G room : Nat} {w : World} (h : Rg R G room [] w) : Calls Try.prog 12 #[.pointer (some ⟨R, 0, none⟩)] w (Popped R G room [] w) := by
  have hrg := h
  obtain ⟨first, bufs, h1, _⟩ := h
  have h1 := h1.alloc (.cells En.zero.arr 30)
  have hV := blk_new w En.zero.arr 30
  obtain ⟨c0, c1, c2⟩ := rg_cells h1
  have hb := below_box w (.cells En.zero.arr 30)
  clear h1
  go_enter Try.func12, Try.ntmps12
  go_wp2_with (first | refine alloc_zero zeroEn rfl rfl ?_ | refine build_zero builtEn rfl rfl ?_ | refine store_same rfl 30 _ _ rfl hV rfl rfl (En.size _) (En.arr_one _) ?_)
  refine bodyPost_ret (ret_two Try.results12 rfl hV Try.underlying30 rfl (En.size _) rfl) rfl ⟨rfl, hrg.below hb, Kp.of_below hb⟩

set_option maxHeartbeats 4000000 in
theorem pop_some {R G room : Nat} {x : En} {M : List En} {w : World} (h : Rg R G room (x :: M) w) : Calls Try.prog 12 #[.pointer (some ⟨R, 0, none⟩)] w (Popped R G room (x :: M) w) := by
  obtain ⟨first, bufs, h1, h2, hne, hbl, hlr, hr64, hf0, hall⟩ := h
  simp only [List.length_cons] at h1 hlr
  have hf : first < room := by omega
  have hrp := bufs_pop (z := En.zero) (by omega) hf hall
  have hx0 : bufs[first]? = some x := by
    have := hall 0 x rfl
    rw [Nat.add_zero, Nat.mod_eq_of_lt hf] at this
    exact this
  have hset := flat_set En.vals_length (by decide) bufs first (by omega) En.zero
  have hpart := flat_part En.vals_length bufs first x hx0
  have hplt : (first + 1) % room < room := Nat.mod_lt _ (by omega)
  have hfin : ∀ w3, Blk R (rgc G room ((first + 1) % room) M.length) 50 w3 → Blk G (putAt (flat En.vals bufs).toArray (first * 6) En.zero.arr.toList) 30 w3 → Kp [R, G] w w3 → Popped R G room (x :: M) w (.returned (.tuple #[.agg x.arr, .bool true])) w3 := by
    intro w3 a1 a2 a3
    refine ⟨rfl, ⟨(first + 1) % room, bufs.set first En.zero, a1, ?_, hne, by rw [List.length_set]; exact hbl, by simp; omega, hr64, .inl hplt, hrp⟩, a3⟩
    rw [← hset]
    exact a2
  have hs := x.arr_size
  have ho := x.arr_one
  have hDs : (flat En.vals bufs).toArray.size = room * 6 := by rw [List.size_toArray, flat_length En.vals_length, hbl]
  have s0 : Blk R (rgc G room first (M.length + 1)) 50 (w.alloc (.cells En.zero.arr 30)) ∧ Blk G (flat En.vals bufs).toArray 30 (w.alloc (.cells En.zero.arr 30)) ∧ Blk w.heap.size En.zero.arr 30 (w.alloc (.cells En.zero.arr 30)) ∧ Kp [] w (w.alloc (.cells En.zero.arr 30)) :=
    ⟨h1.alloc _, h2.alloc _, blk_new _ _ _, Kp.alloc _ _ _⟩
  have hGlt := h2.lt
  have hRlt := h1.lt
  have nV0 : G ≠ w.heap.size := by omega
  have nVR : R ≠ w.heap.size := by omega
  clear h1 h2 hall hset hrp hbl hx0
  generalize (flat En.vals bufs).toArray = D at *
  have hpart : (D.extract (first * 6) (first * 6 + x.arr.toList.length)).toList = x.arr.toList := hpart
  generalize x.arr = C at *
  generalize hmany : M.length = m at *
  clear hmany
  obtain ⟨c0, c1, c2⟩ := rg_cells s0.1
  have kne : ¬ ((m : Int) + 1) = 0 := by omega
  have hC6 : (Try.prog.info? 30).map (·.size) = some C.toList.length := by rw [Array.length_toList, hs]; exact sizeEn
  have p0 : (0 : Int) ≤ (first : Int) := by omega
  have p1 : (first : Int) < (room : Int) := by omega
  have m64 : m ≤ 64 := by omega
  have wlt : w.heap.size ≤ w.heap.size := Nat.le_refl _
  go_enter Try.func12, Try.ntmps12
  go_wp2_with (refine alloc_zero zeroEn rfl rfl ?_)
  clear c0 c1 c2
  generalize hV0 : w.heap.size = V0 at s0 nV0 nVR ⊢
  have HV0 : Hid (w.heap.size = V0) := hV0
  clear hV0
  generalize w.alloc (.cells En.zero.arr 30) = w0 at s0 ⊢
  refine wp_region_held_drew (S := fun w' => Blk R (rgc G room first (m + 1)) 50 w' ∧ Blk G D 30 w') (by kernel_rfl) ⟨s0.1.drew, s0.2.1.drew⟩ (fun hHeld => ?_)
  refine wpAnyH_take (i := 0) (v := ?v1) rfl (by kernel_rfl) (by kernel_rfl) (by kernel_rfl) (fun _ _ _ h => h) (Or.inl ⟨by rfl, ?hy1⟩) hHeld ?rest1
  case hy1 => (intro w hSw; clear hSw; go_simp; try with_reducible rfl)
  try simp only [List.getElem_toArray]
  try simp only [List.getElem_cons_succ]
  try simp only [List.getElem_cons_zero]
  try simp only [Act.put]
  try simp only [List.setIfInBounds_toArray]
  try simp only [List.set_cons_succ]
  try simp only [List.set_cons_zero]
  refine wpAnyH_take (i := 1) (v := ?v2) rfl (by kernel_rfl) (by kernel_rfl) (by kernel_rfl) (fun _ _ _ h => h) (Or.inl ⟨by rfl, ?hy2⟩) hHeld ?rest2
  case hy2 => (intro w hSw; clear hSw; go_simp; try with_reducible rfl)
  try simp only [List.getElem_toArray]
  try simp only [List.getElem_cons_succ]
  try simp only [List.getElem_cons_zero]
  try simp only [Act.put]
  try simp only [List.setIfInBounds_toArray]
  try simp only [List.set_cons_succ]
  try simp only [List.set_cons_zero]
  refine wpAnyH_take (i := 2) (v := ?v3) rfl (by kernel_rfl) (by kernel_rfl) (by kernel_rfl) (fun _ _ _ h => h) (Or.inl ⟨by rfl, ?hy3⟩) hHeld ?rest3
  case hy3 => (intro w hSw; clear hSw; go_simp; try with_reducible rfl)
  try simp only [List.getElem_toArray]
  try simp only [List.getElem_cons_succ]
  try simp only [List.getElem_cons_zero]
  try simp only [Act.put]
  try simp only [List.setIfInBounds_toArray]
  try simp only [List.set_cons_succ]
  try simp only [List.set_cons_zero]
  refine wpAnyH_take (i := 3) (v := ?v4) rfl (by kernel_rfl) (by kernel_rfl) (by kernel_rfl) (fun _ _ _ h => h) (Or.inl ⟨by rfl, ?hy4⟩) hHeld ?rest4
  case hy4 => (intro w hSw; obtain ⟨c0, c1, c2⟩ := rg_cells hSw.1; clear hSw; go_simp; try with_reducible rfl)
  try simp only [List.getElem_toArray]
  try simp only [List.getElem_cons_succ]
  try simp only [List.getElem_cons_zero]
  try simp only [Act.put]
  try simp only [List.setIfInBounds_toArray]
  try simp only [List.set_cons_succ]
  try simp only [List.set_cons_zero]
  refine wpAnyH_take (i := 4) (v := ?v5) rfl (by kernel_rfl) (by kernel_rfl) (by kernel_rfl) (fun _ _ _ h => h) (Or.inl ⟨by rfl, ?hy5⟩) hHeld ?rest5
  case hy5 => (intro w hSw; clear hSw; go_simp; try with_reducible rfl)
  try simp only [List.getElem_toArray]
  try simp only [List.getElem_cons_succ]
  try simp only [List.getElem_cons_zero]
  try simp only [Act.put]
  try simp only [List.setIfInBounds_toArray]
  try simp only [List.set_cons_succ]
  try simp only [List.set_cons_zero]
  refine wpAnyH_take (i := 5) (v := ?v6) rfl (by kernel_rfl) (by kernel_rfl) (by kernel_rfl) (fun _ _ _ h => h) (Or.inl ⟨by rfl, ?hy6⟩) hHeld ?rest6
  case hy6 => (intro w hSw; clear hSw; go_simp; try with_reducible rfl)
  try simp only [List.getElem_toArray]
  try simp only [List.getElem_cons_succ]
  try simp only [List.getElem_cons_zero]
  try simp only [Act.put]
  try simp only [List.setIfInBounds_toArray]
  try simp only [List.set_cons_succ]
  try simp only [List.set_cons_zero]
  refine wpAnyH_take (i := 6) (v := ?v7) rfl (by kernel_rfl) (by kernel_rfl) (by kernel_rfl) (fun _ _ _ h => h) (Or.inl ⟨by rfl, ?hy7⟩) hHeld ?rest7
  case hy7 => (intro w hSw; clear hSw; go_simp; try with_reducible rfl)
  try simp only [List.getElem_toArray]
  try simp only [List.getElem_cons_succ]
  try simp only [List.getElem_cons_zero]
  try simp only [Act.put]
  try simp only [List.setIfInBounds_toArray]
  try simp only [List.set_cons_succ]
  try simp only [List.set_cons_zero]
  refine wpAnyH_take (i := 7) (v := ?v8) rfl (by kernel_rfl) (by kernel_rfl) (by kernel_rfl) (fun _ _ _ h => h) (Or.inl ⟨by rfl, ?hy8⟩) hHeld ?rest8
  case hy8 => (intro w hSw; obtain ⟨c0, c1, c2⟩ := rg_cells hSw.1; clear hSw; go_simp; try with_reducible rfl)
  try simp only [List.getElem_toArray]
  try simp only [List.getElem_cons_succ]
  try simp only [List.getElem_cons_zero]
  try simp only [Act.put]
  try simp only [List.setIfInBounds_toArray]
  try simp only [List.set_cons_succ]
  try simp only [List.set_cons_zero]
  refine wpAnyH_take (i := 8) (v := ?v9) rfl (by kernel_rfl) (by kernel_rfl) (by kernel_rfl) (fun _ _ _ h => h) (Or.inl ⟨by rfl, ?hy9⟩) hHeld ?rest9
  case hy9 => (intro w hSw; clear hSw; go_simp; try with_reducible rfl)
  try simp only [List.getElem_toArray]
  try simp only [List.getElem_cons_succ]
  try simp only [List.getElem_cons_zero]
  try simp only [Act.put]
  try simp only [List.setIfInBounds_toArray]
  try simp only [List.set_cons_succ]
  try simp only [List.set_cons_zero]
  refine' wpAnyH_take (i := 9) (v := _) rfl (by kernel_rfl) (by kernel_rfl) (by kernel_rfl) (fun _ _ _ h => h) (yieldsIf_load_mid (by rfl) _ _ rfl G (first * 6) rfl C.toList _ ?hS10 Try.underlying30 rfl hC6) hHeld ?rest10
  case hS10 => exact fun w h => h.2.range (first * 6) C.toList hpart
  try simp only [List.getElem_toArray]
  try simp only [List.getElem_cons_succ]
  try simp only [List.getElem_cons_zero]
  try simp only [Act.put]
  try simp only [List.setIfInBounds_toArray]
  try simp only [List.set_cons_succ]
  try simp only [List.set_cons_zero]
  obtain ⟨V1, hV1⟩ : ∃ V1, Hid (w0.drew.heap.size = V1) := ⟨_, rfl⟩
  obtain ⟨W1, hW1⟩ : ∃ W, Hid (w0.drew.alloc (.cells En.zero.arr 30) = W) := ⟨_, rfl⟩
  obtain ⟨W2, hW2⟩ : ∃ W, Hid (W1.setCells V1 0 C.toList = W) := ⟨_, rfl⟩
  have eV : V1 = w0.heap.size := hV1.out.symm
  have nR : R ≠ V1 := by have := s0.1.lt; omega
  have nG : G ≠ V1 := by have := s0.2.1.lt; omega
  have n0 : V0 ≠ V1 := by have := s0.2.2.1.lt; omega
  have q1 : Blk R (rgc G room first (m + 1)) 50 W1 ∧ Blk G D 30 W1 ∧ Blk V0 En.zero.arr 30 W1 ∧ Kp [] w W1 := by rw [← hW1.out]; exact ⟨s0.1.drew.alloc _, s0.2.1.drew.alloc _, s0.2.2.1.drew.alloc _, (s0.2.2.2.trans (Kp.drew _ _)).trans (Kp.alloc _ _ _)⟩
  have q1v : Blk V1 En.zero.arr 30 W1 := by rw [← hW1.out, ← hV1.out]; exact blk_new _ _ _
  have q2 : Blk R (rgc G room first (m + 1)) 50 W2 ∧ Blk G D 30 W2 ∧ Blk V0 En.zero.arr 30 W2 := by rw [← hW2.out]; exact ⟨q1.1.setCells_other nR _ _, q1.2.1.setCells_other nG _ _, q1.2.2.1.setCells_other n0 _ _⟩
  have q2v : Blk V1 C 30 W2 := by rw [← hW2.out]; have := q1v.setCells C.toList 0; rw [putAt_all _ _ (by rw [hs]; rfl)] at this; exact this
  have q2k : Kp [] w W2 := by rw [← hW2.out]; exact q1.2.2.2.since (b := V1) (Kp.setCells (S := [V1]) V1 (by simp) _ _ _) (by have := s0.2.2.2.size; omega)
  clear eV
  refine wpAnyH_ready (rs := [10]) (by kernel_rfl) (by simp) ?_
  refine AllReadyH.cons rfl (fun K hK => ?_) (AllReadyH.nil)
  rw [if_pos (by rfl)]
  refine wp_alloc_zero zeroEn rfl ?_
  rw [hW1.out, hV1.out]
  refine hK.out _ _ ⟨q1.1, q1.2.1⟩ (fun hHeld => ?_)
  clear hK K
  try simp only [List.getElem_toArray]
  try simp only [List.getElem_cons_succ]
  try simp only [List.getElem_cons_zero]
  try simp only [Act.put]
  try simp only [List.setIfInBounds_toArray]
  try simp only [List.set_cons_succ]
  try simp only [List.set_cons_zero]
  refine wpAnyH_ready (rs := [11]) (by kernel_rfl) (by simp) ?_
  refine AllReadyH.cons rfl (fun K hK => ?_) (AllReadyH.nil)
  rw [if_pos (by rfl)]
  refine wp_store_mid 30 _ _ rfl V1 0 C rfl rfl (q1v.there 0 _ (by rw [hs]; decide)) (by rw [hs]; exact sizeEn) ho ?_
  rw [hW2.out]
  refine hK.out _ _ ⟨q2.1, q2.2.1⟩ (fun hHeld => ?_)
  clear hK K
  try simp only [List.getElem_toArray]
  try simp only [List.getElem_cons_succ]
  try simp only [List.getElem_cons_zero]
  try simp only [Act.put]
  try simp only [List.setIfInBounds_toArray]
  try simp only [List.set_cons_succ]
  try simp only [List.set_cons_zero]
  refine wpAnyH_done (by kernel_rfl) ?_ _
  clear hHeld q1 q1v s0
  go_wp2_with fail
  refine wp_region_held_drew (S := fun w' => Blk R (rgc G room first (m + 1)) 50 w' ∧ True) (by kernel_rfl) ⟨q2.1.drew, trivial⟩ (fun hHeld => ?_)
  refine wpAnyH_take (i := 0) (v := ?v11) rfl (by kernel_rfl) (by kernel_rfl) (by kernel_rfl) (fun _ _ _ h => h) (Or.inl ⟨by rfl, ?hy11⟩) hHeld ?rest11
  case hy11 => (intro w hSw; clear hSw; go_simp; try with_reducible rfl)
  try simp only [List.getElem_toArray]
  try simp only [List.getElem_cons_succ]
  try simp only [List.getElem_cons_zero]
  try simp only [Act.put]
  try simp only [List.setIfInBounds_toArray]
  try simp only [List.set_cons_succ]
  try simp only [List.set_cons_zero]
  refine wpAnyH_take (i := 1) (v := ?v12) rfl (by kernel_rfl) (by kernel_rfl) (by kernel_rfl) (fun _ _ _ h => h) (Or.inl ⟨by rfl, ?hy12⟩) hHeld ?rest12
  case hy12 => (intro w hSw; clear hSw; go_simp; try with_reducible rfl)
  try simp only [List.getElem_toArray]
  try simp only [List.getElem_cons_succ]
  try simp only [List.getElem_cons_zero]
  try simp only [Act.put]
  try simp only [List.setIfInBounds_toArray]
  try simp only [List.set_cons_succ]
  try simp only [List.set_cons_zero]
  refine wpAnyH_take (i := 2) (v := ?v13) rfl (by kernel_rfl) (by kernel_rfl) (by kernel_rfl) (fun _ _ _ h => h) (Or.inl ⟨by rfl, ?hy13⟩) hHeld ?rest13
  case hy13 => (intro w hSw; clear hSw; go_simp; try with_reducible rfl)
  try simp only [List.getElem_toArray]
  try simp only [List.getElem_cons_succ]
  try simp only [List.getElem_cons_zero]
  try simp only [Act.put]
  try simp only [List.setIfInBounds_toArray]
  try simp only [List.set_cons_succ]
  try simp only [List.set_cons_zero]
  refine wpAnyH_take (i := 3) (v := ?v14) rfl (by kernel_rfl) (by kernel_rfl) (by kernel_rfl) (fun _ _ _ h => h) (Or.inl ⟨by rfl, ?hy14⟩) hHeld ?rest14
  case hy14 => (intro w hSw; obtain ⟨c0, c1, c2⟩ := rg_cells hSw.1; clear hSw; go_simp; try with_reducible rfl)
  try simp only [List.getElem_toArray]
  try simp only [List.getElem_cons_succ]
  try simp only [List.getElem_cons_zero]
  try simp only [Act.put]
  try simp only [List.setIfInBounds_toArray]
  try simp only [List.set_cons_succ]
  try simp only [List.set_cons_zero]
  refine wpAnyH_take (i := 4) (v := ?v15) rfl (by kernel_rfl) (by kernel_rfl) (by kernel_rfl) (fun _ _ _ h => h) (Or.inl ⟨by rfl, ?hy15⟩) hHeld ?rest15
  case hy15 => (intro w hSw; clear hSw; go_simp; try with_reducible rfl)
  try simp only [List.getElem_toArray]
  try simp only [List.getElem_cons_succ]
  try simp only [List.getElem_cons_zero]
  try simp only [Act.put]
  try simp only [List.setIfInBounds_toArray]
  try simp only [List.set_cons_succ]
  try simp only [List.set_cons_zero]
  refine wpAnyH_take (i := 5) (v := ?v16) rfl (by kernel_rfl) (by kernel_rfl) (by kernel_rfl) (fun _ _ _ h => h) (Or.inl ⟨by rfl, ?hy16⟩) hHeld ?rest16
  case hy16 => (intro w hSw; clear hSw; go_simp; try with_reducible rfl)
  try simp only [List.getElem_toArray]
  try simp only [List.getElem_cons_succ]
  try simp only [List.getElem_cons_zero]
  try simp only [Act.put]
  try simp only [List.setIfInBounds_toArray]
  try simp only [List.set_cons_succ]
  try simp only [List.set_cons_zero]
  refine wpAnyH_take (i := 6) (v := ?v17) rfl (by kernel_rfl) (by kernel_rfl) (by kernel_rfl) (fun _ _ _ h => h) (Or.inl ⟨by rfl, ?hy17⟩) hHeld ?rest17
  case hy17 => (intro w hSw; clear hSw; go_simp; try with_reducible rfl)
  try simp only [List.getElem_toArray]
  try simp only [List.getElem_cons_succ]
  try simp only [List.getElem_cons_zero]
  try simp only [Act.put]
  try simp only [List.setIfInBounds_toArray]
  try simp only [List.set_cons_succ]
  try simp only [List.set_cons_zero]
  refine wpAnyH_take (i := 7) (v := ?v18) rfl (by kernel_rfl) (by kernel_rfl) (by kernel_rfl) (fun _ _ _ h => h) (Or.inl ⟨by rfl, ?hy18⟩) hHeld ?rest18
  case hy18 => (intro w hSw; obtain ⟨c0, c1, c2⟩ := rg_cells hSw.1; clear hSw; go_simp; try with_reducible rfl)
  try simp only [List.getElem_toArray]
  try simp only [List.getElem_cons_succ]
  try simp only [List.getElem_cons_zero]
  try simp only [Act.put]
  try simp only [List.setIfInBounds_toArray]
  try simp only [List.set_cons_succ]
  try simp only [List.set_cons_zero]
  refine wpAnyH_take (i := 8) (v := ?v19) rfl (by kernel_rfl) (by kernel_rfl) (by kernel_rfl) (fun _ _ _ h => h) (Or.inl ⟨by rfl, ?hy19⟩) hHeld ?rest19
  case hy19 => (intro w hSw; clear hSw; go_simp; try with_reducible rfl)
  try simp only [List.getElem_toArray]
  try simp only [List.getElem_cons_succ]
  try simp only [List.getElem_cons_zero]
  try simp only [Act.put]
  try simp only [List.setIfInBounds_toArray]
  try simp only [List.set_cons_succ]
  try simp only [List.set_cons_zero]
  refine wpAnyH_take (i := 9) (v := ?v20) rfl (by kernel_rfl) (by kernel_rfl) (by kernel_rfl) (fun _ _ _ h => h) (Or.inl ⟨by rfl, ?hy20⟩) hHeld ?rest20
  case hy20 => (intro w hSw; clear hSw; go_simp; try with_reducible rfl)
  try simp only [List.getElem_toArray]
  try simp only [List.getElem_cons_succ]
  try simp only [List.getElem_cons_zero]
  try simp only [Act.put]
  try simp only [List.setIfInBounds_toArray]
  try simp only [List.set_cons_succ]
  try simp only [List.set_cons_zero]
  obtain ⟨W3, hW3⟩ : ∃ W, Hid (W2.drew.setCells G (first * 6) En.zero.arr.toList = W) := ⟨_, rfl⟩
  have q3 : Blk R (rgc G room first (m + 1)) 50 W3 ∧ Blk G (putAt D (first * 6) En.zero.arr.toList) 30 W3 ∧ Blk V0 En.zero.arr 30 W3 ∧ Blk V1 C 30 W3 := by rw [← hW3.out]; exact ⟨q2.1.drew.setCells_other hne _ _, q2.2.1.drew.setCells _ _, q2.2.2.drew.setCells_other (fun e => nV0 e.symm) _ _, q2v.drew.setCells_other (fun e => nG e.symm) _ _⟩
  have q3k : Kp [G] w W3 := by rw [← hW3.out]; exact Kp.trans ⟨q2k.os, q2k.tape, q2k.output, q2k.size, fun k hk _ => q2k.block k hk (by simp)⟩ ((Kp.drew _ _).trans (Kp.setCells G (by simp) _ _ _))
  refine wpAnyH_ready (rs := [10]) (by kernel_rfl) (by simp) ?_
  refine AllReadyH.cons rfl (fun K hK => ?_) (AllReadyH.nil)
  rw [if_pos (by rfl)]
  refine wp_store_mid 30 _ _ rfl G (first * 6) En.zero.arr rfl rfl (q2.2.1.drew.there (first * 6) _ (by rw [En.arr_size]; omega)) (by rw [En.arr_size]; exact sizeEn) (En.arr_one _) ?_
  rw [hW3.out]
  refine hK.out _ _ ⟨q3.1, trivial⟩ (fun hHeld => ?_)
  clear hK K
  try simp only [List.getElem_toArray]
  try simp only [List.getElem_cons_succ]
  try simp only [List.getElem_cons_zero]
  try simp only [Act.put]
  try simp only [List.setIfInBounds_toArray]
  try simp only [List.set_cons_succ]
  try simp only [List.set_cons_zero]
  refine wpAnyH_done (by kernel_rfl) ?_ _
  clear hHeld q2 q2v q2k
  go_wp2_with fail
  refine (place_ok q3.1 hr64 hf 1 (by omega)).mono ?_
  rintro r w5 ⟨rfl, hb5⟩
  have z1 := q3.1.below hb5
  have z2 := q3.2.1.below hb5
  have z3 := q3.2.2.1.below hb5
  have z4 := q3.2.2.2.below hb5
  have z5 : Kp [R, G] w w5 := Kp.trans ⟨q3k.os, q3k.tape, q3k.output, q3k.size, fun k hk hn => q3k.block k hk (by simp at hn ⊢; exact hn.2)⟩ (Kp.of_below hb5)
  clear hb5 q3 q3k
  obtain ⟨P, hP⟩ : ∃ P, Hid ((first + 1) % room = P) := ⟨_, rfl⟩
  rw [hP.out] at hfin hplt ⊢
  obtain ⟨c0, c1, c2⟩ := rg_cells z1
  go_wp2_with (first
    | (refine store_one rfl 3 _ _ rfl _ z1 rfl rfl rfl rfl sizeI (Nat.le_of_ble_eq_true rfl) ?_; intro W6 z6 k6; have y6 : Blk R (rgc G room P (m + 1)) 50 W6 := z6; clear z6; obtain ⟨d0, d1, d2⟩ := rg_cells y6)
    | (refine store_one rfl 3 _ _ rfl (.int .i64 (m : Int)) y6 rfl rfl rfl rfl sizeI (Nat.le_of_ble_eq_true rfl) ?_; intro W7 z7 k7; have y7 : Blk R (rgc G room P m) 50 W7 := z7; clear z7; have v7 := (z4.kp k6 (by simp; exact fun e => nR e.symm)).kp k7 (by simp; exact fun e => nR e.symm); have u7 := (z3.kp k6 (by simp; exact fun e => nVR e.symm)).kp k7 (by simp; exact fun e => nVR e.symm))
    | refine load_blk rfl 30 _ rfl v7 rfl Try.underlying30 rfl (by rw [hs]; exact sizeEn) ?_
    | (refine store_part rfl 30 _ _ rfl u7 rfl rfl (by rw [hs]; exact sizeEn) (by rw [hs]; decide) ho ?_; intro W8 y8 k8))
  rw [putAt_all _ _ (by rw [hs]; rfl)] at y8
  have k67 : Kp [R, G] w W7 := (z5.trans (k6.mono (by simp))).trans (k7.mono (by simp))
  have nGR : G ∉ [R] := by simp; exact fun e => hne e.symm
  have nGV : G ∉ [V0] := by simp; exact nV0
  have nRV : R ∉ [V0] := by simp; exact nVR
  refine bodyPost_ret (ret_two Try.results12 rfl y8 Try.underlying30 rfl (by rw [hs]; exact sizeEn) rfl) rfl (hfin _ (y7.kp k8 nRV) (((z2.kp k6 nGR).kp k7 nGR).kp k8 nGV) (k67.new k8 (by rw [HV0.out]; exact Nat.le_refl _)))

theorem pop_ok {R G room : Nat} {L : List En} {w : World} (h : Rg R G room L w) : Calls Try.prog 12 #[.pointer (some ⟨R, 0, none⟩)] w (Popped R G room L w) := by
  cases L with
  | nil => exact pop_none h
  | cons x M => exact pop_some h

theorem push_ok {R G room : Nat} {L : List En} {w : World} (h : Rg R G room L w) (e : En) : Calls Try.prog 10 #[.pointer (some ⟨R, 0, none⟩), .agg e.arr] w (Pushed R G room L e w) := by
  by_cases hL : L.length < room
  · exact push_room h hL e
  · exact push_full h (by have := h.le; omega) e

end Go.Proofs.Ytleecgoppplioaa
