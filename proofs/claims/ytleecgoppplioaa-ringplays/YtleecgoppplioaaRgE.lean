/-
  What Peek returns; what a ring holds behind Clear.
  Condition: the ring holds a list.
-/
import Derived.Test.YtleecgoppplioaaRgD
namespace Go.Proofs.Ytleecgoppplioaa
set_option maxRecDepth 10000
open Go.RowKit Go.Sort

def peekE (L : List En) (i : Int) : En := if 0 ≤ i ∧ i < (L.length : Int) then L.getD i.toNat En.zero else En.zero
def Peeked (L : List En) (i : Int) (w : World) (r : Ending) (w' : World) : Prop :=
  r = .returned (.tuple #[.agg (peekE L i).arr, .bool (decide (0 ≤ i ∧ i < (L.length : Int)))]) ∧ Below w.heap.size w w'

theorem Kp.all {w w' : World} (h : Kp [] w w') : Below w.heap.size w w' := h.below (by simp) (Nat.le_refl _)

set_option maxHeartbeats 2000000 in
theorem peek_none {R G room : Nat} {L : List En} {w : World} (h : Rg R G room L w) (i : Int) (hi : ¬ (0 ≤ i ∧ i < (L.length : Int))) : Calls Try.prog 13 #[.pointer (some ⟨R, 0, none⟩), .int .i64 i] w (Peeked L i w) := by
  have hfin : ∀ w', Below w.heap.size w w' → Peeked L i w (.returned (.tuple #[.agg En.zero.arr, .bool false])) w' := fun w' hb => ⟨by unfold peekE; rw [if_neg hi, decide_eq_false hi], hb⟩
  obtain ⟨first, bufs, h1, _⟩ := h
  have h1 := h1.alloc (.cells En.zero.arr 30)
  have hV := blk_new w En.zero.arr 30
  obtain ⟨c0, c1, c2⟩ := rg_cells h1
  have hb := below_box w (.cells En.zero.arr 30)
  clear h1
  generalize L.length = n at *
  by_cases hneg : i < 0
  · go_enter Try.func13, Try.ntmps13
    go_wp2_with (first | refine alloc_zero zeroEn rfl rfl ?_ | refine build_zero builtEn rfl rfl ?_ | refine store_same rfl 30 _ _ rfl hV rfl rfl (En.size _) (En.arr_one _) ?_)
    refine bodyPost_ret (ret_two Try.results13 rfl hV Try.underlying30 rfl (En.size _) rfl) rfl (hfin _ hb)
  · have hbig : (n : Int) ≤ i := by omega
    have hpos : 0 ≤ i := by omega
    go_enter Try.func13, Try.ntmps13
    go_wp2_with (first | refine alloc_zero zeroEn rfl rfl ?_ | refine build_zero builtEn rfl rfl ?_ | refine store_same rfl 30 _ _ rfl hV rfl rfl (En.size _) (En.arr_one _) ?_)
    refine bodyPost_ret (ret_two Try.results13 rfl hV Try.underlying30 rfl (En.size _) rfl) rfl (hfin _ hb)

set_option maxHeartbeats 4000000 in
theorem peek_some {R G room : Nat} {L : List En} {w : World} (h : Rg R G room L w) (i : Nat) (hi : i < L.length) : Calls Try.prog 13 #[.pointer (some ⟨R, 0, none⟩), .int .i64 (i : Int)] w (Peeked L i w) := by
  obtain ⟨x, hx⟩ : ∃ x, L[i]? = some x := ⟨_, List.getElem?_eq_getElem hi⟩
  have hfin : ∀ w', Below w.heap.size w w' → Peeked L i w (.returned (.tuple #[.agg x.arr, .bool true])) w' := fun w' hb => ⟨by
    unfold peekE
    rw [if_pos (by omega), decide_eq_true (by omega), Int.toNat_natCast]
    simp [hx], hb⟩
  obtain ⟨first, bufs, h1, h2, hne, hbl, hlr, hr64, hf0, hall⟩ := h
  have hf : first < room := by omega
  have hx0 := hall i x hx
  obtain ⟨p, hp⟩ : ∃ p, (first + i) % room = p := ⟨_, rfl⟩
  have hplt : p < room := by rw [← hp]; exact Nat.mod_lt _ (by omega)
  rw [hp] at hx0
  have hpart := flat_part En.vals_length bufs p x hx0
  have hs := x.arr_size
  have ho := x.arr_one
  have s0 : Blk R (rgc G room first L.length) 50 (w.alloc (.cells En.zero.arr 30)) ∧ Blk G (flat En.vals bufs).toArray 30 (w.alloc (.cells En.zero.arr 30)) ∧ Blk w.heap.size En.zero.arr 30 (w.alloc (.cells En.zero.arr 30)) ∧ Kp [] w (w.alloc (.cells En.zero.arr 30)) :=
    ⟨h1.alloc _, h2.alloc _, blk_new _ _ _, Kp.alloc _ _ _⟩
  have hGlt := h2.lt
  have hRlt := h1.lt
  have nV0 : G ≠ w.heap.size := by omega
  have nVR : R ≠ w.heap.size := by omega
  clear h1 h2 hall hbl hx0 hx
  generalize (flat En.vals bufs).toArray = D at *
  have hpart : (D.extract (p * 6) (p * 6 + x.arr.toList.length)).toList = x.arr.toList := hpart
  generalize x.arr = C at *
  generalize hmany : L.length = many at *
  clear hmany
  have hi64 : i ≤ 64 := by omega
  obtain ⟨c0, c1, c2⟩ := rg_cells s0.1
  have i0 : ¬ (i : Int) < 0 := by omega
  have i1 : ¬ (many : Int) ≤ (i : Int) := by omega
  have hC6 : (Try.prog.info? 30).map (·.size) = some C.toList.length := by rw [Array.length_toList, hs]; exact sizeEn
  have p0 : (0 : Int) ≤ (p : Int) := by omega
  have p1 : (p : Int) < (room : Int) := by omega
  go_enter Try.func13, Try.ntmps13
  go_wp2_with (refine alloc_zero zeroEn rfl rfl ?_)
  clear c0 c1 c2
  generalize hV0 : w.heap.size = V0 at s0 nV0 nVR ⊢
  have HV0 : Hid (w.heap.size = V0) := hV0
  clear hV0
  generalize w.alloc (.cells En.zero.arr 30) = w0 at s0 ⊢
  refine wp_region_held_drew (S := fun w' => Blk R (rgc G room first many) 50 w' ∧ Blk G D 30 w') (by kernel_rfl) ⟨s0.1.drew, s0.2.1.drew⟩ (fun hHeld => ?_)
  refine wpAnyH_take (i := 0) (v := ?v1) rfl (by kernel_rfl) (by kernel_rfl) (by kernel_rfl) (fun _ _ _ h => h) (Or.inl ⟨by rfl, ?hy1⟩) hHeld ?rest1
  case hy1 => (intro w hSw; clear hSw; go_simp; try with_reducible rfl)
  try simp only [List.getElem_toArray]
  try simp only [List.getElem_cons_succ]
  try simp only [List.getElem_cons_zero]
  try simp only [Act.put]
  try simp only [List.setIfInBounds_toArray]
  try simp only [List.set_cons_succ]
  try simp only [List.set_cons_zero]
  refine wpAnyH_take (i := 1) (v := ?v2) rfl (by kernel_rfl) (by kernel_rfl) (by kernel_rfl) (fun _ _ _ h => h) (Or.inl ⟨by rfl, ?hy2⟩) hHeld ?rest2
  case hy2 => (intro w hSw; clear hSw; go_simp; try with_reducible rfl)
  try simp only [List.getElem_toArray]
  try simp only [List.getElem_cons_succ]
  try simp only [List.getElem_cons_zero]
  try simp only [Act.put]
  try simp only [List.setIfInBounds_toArray]
  try simp only [List.set_cons_succ]
  try simp only [List.set_cons_zero]
  refine wpAnyH_take (i := 2) (v := ?v3) rfl (by kernel_rfl) (by kernel_rfl) (by kernel_rfl) (fun _ _ _ h => h) (Or.inl ⟨by rfl, ?hy3⟩) hHeld ?rest3
  case hy3 => (intro w hSw; clear hSw; go_simp; try with_reducible rfl)
  try simp only [List.getElem_toArray]
  try simp only [List.getElem_cons_succ]
  try simp only [List.getElem_cons_zero]
  try simp only [Act.put]
  try simp only [List.setIfInBounds_toArray]
  try simp only [List.set_cons_succ]
  try simp only [List.set_cons_zero]
  refine wpAnyH_take (i := 3) (v := ?v4) rfl (by kernel_rfl) (by kernel_rfl) (by kernel_rfl) (fun _ _ _ h => h) (Or.inl ⟨by rfl, ?hy4⟩) hHeld ?rest4
  case hy4 => (intro w hSw; obtain ⟨c0, c1, c2⟩ := rg_cells hSw.1; clear hSw; go_simp; try with_reducible rfl)
  try simp only [List.getElem_toArray]
  try simp only [List.getElem_cons_succ]
  try simp only [List.getElem_cons_zero]
  try simp only [Act.put]
  try simp only [List.setIfInBounds_toArray]
  try simp only [List.set_cons_succ]
  try simp only [List.set_cons_zero]
  refine wpAnyH_take (i := 4) (v := ?v5) rfl (by kernel_rfl) (by kernel_rfl) (by kernel_rfl) (fun _ _ _ h => h) (Or.inl ⟨by rfl, ?hy5⟩) hHeld ?rest5
  case hy5 => (intro w hSw; clear hSw; go_simp; try with_reducible rfl)
  try simp only [List.getElem_toArray]
  try simp only [List.getElem_cons_succ]
  try simp only [List.getElem_cons_zero]
  try simp only [Act.put]
  try simp only [List.setIfInBounds_toArray]
  try simp only [List.set_cons_succ]
  try simp only [List.set_cons_zero]
  refine wpAnyH_take (i := 5) (v := ?v6) rfl (by kernel_rfl) (by kernel_rfl) (by kernel_rfl) (fun _ _ _ h => h) (Or.inl ⟨by rfl, ?hy6⟩) hHeld ?rest6
  case hy6 => (intro w hSw; clear hSw; go_simp; try with_reducible rfl)
  try simp only [List.getElem_toArray]
  try simp only [List.getElem_cons_succ]
  try simp only [List.getElem_cons_zero]
  try simp only [Act.put]
  try simp only [List.setIfInBounds_toArray]
  try simp only [List.set_cons_succ]
  try simp only [List.set_cons_zero]
  refine wpAnyH_ready (rs := [6]) (by kernel_rfl) (by simp) ?_
  refine AllReadyH.cons rfl (fun K hK => ?_) (AllReadyH.nil)
  go_simp
  go_wp2_with (refine (place_ok hHeld.1 hr64 hf i hi64).mono ?_; rintro r w2 ⟨rfl, hb2⟩)
  have s2 : Blk R (rgc G room first many) 50 w2 ∧ Blk G D 30 w2 ∧ Blk V0 En.zero.arr 30 w2 := ⟨s0.1.drew.below hb2, s0.2.1.drew.below hb2, s0.2.2.1.drew.below hb2⟩
  have s2k : Kp [] w w2 := (s0.2.2.2.trans (Kp.drew _ _)).trans (Kp.of_below hb2)
  clear hHeld hb2 s0
  refine hK.out _ _ ⟨s2.1, s2.2.1⟩ (fun hHeld => ?_)
  clear hK K
  refine wpAnyH_take (i := 7) (v := ?v7) rfl (by kernel_rfl) (by kernel_rfl) (by kernel_rfl) (fun _ _ _ h => h) (Or.inl ⟨by rfl, ?hy7⟩) hHeld ?rest7
  case hy7 => (intro w hSw; clear hSw; go_simp; try with_reducible rfl)
  try simp only [List.getElem_toArray]
  try simp only [List.getElem_cons_succ]
  try simp only [List.getElem_cons_zero]
  try simp only [Act.put]
  try simp only [List.setIfInBounds_toArray]
  try simp only [List.set_cons_succ]
  try simp only [List.set_cons_zero]
  refine' wpAnyH_take (i := 8) (v := _) rfl (by kernel_rfl) (by kernel_rfl) (by kernel_rfl) (fun _ _ _ h => h) (yieldsIf_load_mid (by rfl) _ _ rfl G (p * 6) rfl C.toList _ ?hS8 Try.underlying30 rfl hC6) hHeld ?rest8
  case hS8 => exact fun w h => h.2.range (p * 6) C.toList hpart
  try simp only [List.getElem_toArray]
  try simp only [List.getElem_cons_succ]
  try simp only [List.getElem_cons_zero]
  try simp only [Act.put]
  try simp only [List.setIfInBounds_toArray]
  try simp only [List.set_cons_succ]
  try simp only [List.set_cons_zero]
  obtain ⟨W, hW⟩ : ∃ W, Hid (w2.setCells V0 0 C.toList = W) := ⟨_, rfl⟩
  have k0 : Blk V0 C 30 W := by rw [← hW.out]; have := s2.2.2.setCells C.toList 0; rw [putAt_all _ _ (by rw [hs]; rfl)] at this; exact this
  have k1 : Blk R (rgc G room first many) 50 W ∧ Blk G D 30 W := by rw [← hW.out]; exact ⟨s2.1.setCells_other nVR _ _, s2.2.1.setCells_other nV0 _ _⟩
  have k3 : Kp [] w W := by rw [← hW.out]; exact s2k.new (b := V0) (Kp.setCells (S := [V0]) V0 (by simp) _ _ _) (by rw [HV0.out]; exact Nat.le_refl _)
  refine wpAnyH_ready (rs := [9]) (by kernel_rfl) (by simp) ?_
  refine AllReadyH.cons rfl (fun K hK => ?_) (AllReadyH.nil)
  rw [if_pos (by rfl)]
  refine wp_store_mid 30 _ _ rfl V0 0 C rfl rfl (s2.2.2.there 0 _ (by rw [hs]; decide)) (by rw [hs]; exact sizeEn) ho ?_
  rw [hW.out]
  refine hK.out _ _ k1 (fun hHeld => ?_)
  clear hK K
  try simp only [List.getElem_toArray]
  try simp only [List.getElem_cons_succ]
  try simp only [List.getElem_cons_zero]
  try simp only [Act.put]
  try simp only [List.setIfInBounds_toArray]
  try simp only [List.set_cons_succ]
  try simp only [List.set_cons_zero]
  refine wpAnyH_take (i := 10) (v := ?v9) rfl (by kernel_rfl) (by kernel_rfl) (by kernel_rfl) (fun _ _ _ h => h) (Or.inl ⟨by rfl, ?hy9⟩) hHeld ?rest9
  case hy9 => (intro w hSw; clear hSw; go_simp; try with_reducible rfl)
  try simp only [List.getElem_toArray]
  try simp only [List.getElem_cons_succ]
  try simp only [List.getElem_cons_zero]
  try simp only [Act.put]
  try simp only [List.setIfInBounds_toArray]
  try simp only [List.set_cons_succ]
  try simp only [List.set_cons_zero]
  refine wpAnyH_done (by kernel_rfl) ?_ _
  go_wp2_with fail
  refine bodyPost_ret (ret_two Try.results13 rfl k0 Try.underlying30 rfl (by rw [hs]; exact sizeEn) rfl) rfl (hfin _ ?_)
  exact k3.all

theorem peek_ok {R G room : Nat} {L : List En} {w : World} (h : Rg R G room L w) (i : Int) : Calls Try.prog 13 #[.pointer (some ⟨R, 0, none⟩), .int .i64 i] w (Peeked L i w) := by
  by_cases hi : 0 ≤ i ∧ i < (L.length : Int)
  · obtain ⟨n, rfl⟩ : ∃ n : Nat, i = (n : Int) := ⟨i.toNat, by omega⟩
    exact peek_some h n (by omega)
  · exact peek_none h i hi

theorem zeroVal (w : World) : (zeroValue 30).run Try.prog w = .ok (.agg En.zero.arr) w := (zero_of_info zeroEn).1 w

set_option maxHeartbeats 2000000 in
theorem clear_ok {R G room : Nat} {L : List En} {w : World} (h : Rg R G room L w) : Calls Try.prog 16 #[.pointer (some ⟨R, 0, none⟩)] w fun r w' => r = .returned (.tuple #[]) ∧ Rg R G room [] w' ∧ Kp [R, G] w w' := by
  obtain ⟨first, bufs, h1, h2, hne, hbl, hlr, hr64, hf0, hall⟩ := h
  have hDs : (flat En.vals bufs).toArray.size = room * 6 := by rw [List.size_toArray, flat_length En.vals_length, hbl]
  have hfin : ∀ w', Blk R (rgc G room 0 0) 50 w' → Blk G (flat En.vals (List.replicate room En.zero)).toArray 30 w' → Rg R G room [] w' := fun w' a1 a2 =>
    ⟨0, List.replicate room En.zero, a1, a2, hne, by simp, by simp, hr64, by omega, fun i x hx => by simp at hx⟩
  generalize (flat En.vals bufs).toArray = D at *
  obtain ⟨c0, c1, c2⟩ := rg_cells h1
  have nR : R ∉ [G] := by simp; exact hne
  have nG : G ∉ [R] := by simp; exact fun e => hne e.symm
  go_enter Try.func16, Try.ntmps16
  go_wp2_with (first
    | (refine clear_li En.vals_length (by decide) En.vals_one En.zero rfl _ rfl Try.underlying27 zeroVal rfl h2 hDs rfl ?_; intro W1 b1 k1; have y1 := h1.kp k1 nR)
    | (refine store_one rfl 3 _ _ rfl _ y1 rfl rfl rfl rfl sizeI (Nat.le_of_ble_eq_true rfl) ?_; intro W2 z2 k2; have y2 : Blk R (rgc G room 0 L.length) 50 W2 := z2; clear z2)
    | (refine store_one rfl 3 _ _ rfl _ y2 rfl rfl rfl rfl sizeI (Nat.le_of_ble_eq_true rfl) ?_; intro W3 z3 k3; have y3 : Blk R (rgc G room 0 0) 50 W3 := z3; clear z3))
  go_end0
  exact ⟨rfl, hfin _ y3 ((b1.kp k2 nG).kp k3 nG), ((k1.mono (by simp)).trans (k2.mono (by simp))).trans (k3.mono (by simp))⟩

end Go.Proofs.Ytleecgoppplioaa
