/-
  What one proposes, as the document says: what the call answers.
  Of a Self from 0 to 7; its epoch is such as a uint32 holds.
-/
import Derived.Test.YthgmecgknhphmaaGaG
import Derived.Test.YthgmecgknhphmaaImR
namespace Go.Proofs.Ythgmecgknhphmaa
set_option maxRecDepth 10000
set_option linter.unusedSimpArgs false
open Go.RowKit Go.Sort
set_option linter.unusedVariables false

theorem lst_nodup (m : Nat → Nat) : (lst m).Nodup := List.nodup_range.sublist List.filter_sublist
theorem oth_tail (m : Nat → Nat) (s : Nat) (r : List Nat) (h : lst m = s :: r) : oth m (s : Int) = r := by
  have hn := lst_nodup m
  rw [h, List.nodup_cons] at hn
  rw [oth, h, List.filter_cons_of_neg (by simp), List.filter_eq_self]
  intro d hd
  have : d ≠ s := fun e => hn.1 (e ▸ hd)
  simp
  omega
theorem any_take (q : Nat → Bool) (r : List Nat) (j d : Nat) (h : r[j]? = some d) : (r.take (j + 1)).any q = ((r.take j).any q || q d) := by
  rw [List.take_add_one, h]
  simp

set_option maxHeartbeats 8000000 in
theorem rpropose_ok (c : Co) (s : Nat) (hs : s < 8) (hcs : c.self = (s : Int)) (he : c.epoch < 4294967296) (m : Nat → Nat) (w : World) : Calls Try.prog 35 #[.agg (coc c), .agg (mbc m)] w fun e w' => e = .returned (.tuple #[.agg (propI c m).arr, .bool (proB c m)]) ∧ Below w.heap.size w w' := by
  obtain ⟨a0, a1, a2, hB⟩ := three_blk (T0 := 35) (T1 := 28) (T2 := 27) (C0 := coc c) (C1 := mbc m) (C2 := Idn.zero.arr) (w := w) rfl
  obtain ⟨P, HP⟩ : ∃ P, Hid (propI c m = P) := ⟨_, rfl⟩
  obtain ⟨B, HQ⟩ : ∃ P, Hid (proB c m = P) := ⟨_, rfl⟩
  rw [HP.out, HQ.out]
  have pl := rlist_ok m
  have hn8 := lst_len m
  have HL8 : Hid (∀ d ∈ lst m, d < 8) := fun d hd => by simp [lst, lstTo] at hd; exact hd.1
  have HE0 : proB c m = (((!(lst m).isEmpty && decide ((((lst m).headD 0 : Nat) : Int) = c.self)) && !standB c m) && !decide (c.epoch = 4294967295)) := rfl
  unfold Listed at pl
  obtain ⟨LL, HLL⟩ : ∃ L, lst m = L := ⟨_, rfl⟩
  rw [HLL] at pl hn8 HL8 HE0
  go_enter Try.func35, Try.ntmps35
  go_upto_region 1 with (refine alloc_zero zeroIdn rfl rfl ?_)
  try simp only [Act.put, List.setIfInBounds_toArray, List.set_cons_zero, List.set_cons_succ]
  try simp only [alloc_size]
  generalize ((w.alloc (Obj.cells (coc c) 35)).alloc (Obj.cells (mbc m) 28)).alloc (Obj.cells Idn.zero.arr 27) = W at a0 a1 a2 hB ⊢
  go_wp2_with (refine load_blk rfl 28 _ rfl a1 rfl Try.underlying28 rfl sizeMb ?_)
  refine (pl _).mono ?_
  rintro r w1 ⟨⟨la, lc, rfl, hL⟩, hb⟩
  replace hL := hL.mono (Nat.zero_le _)
  replace a0 := a0.below hb
  replace a1 := a1.below hb
  replace a2 := a2.below hb
  replace hB := hB.trans (hb.mono hB.size)
  clear hb pl
  have hC0 := hB.drew
  have z0 := a2.drew
  cases LL with
  | nil =>
    have HE : proB c m = false := HE0
    clear HE0
    go_upto_region 2 with fail
    show _
    refine wp_region_held_drew (S := fun w' => Blk w.heap.size (coc c) 35 w' ∧ Li nv 0 la [] w') (by kernel_rfl) ⟨a0.drew, hL.below ((Below.refl _ _).drew)⟩ (fun hHeld => ?_)
    refine tkH 0 (v := ?v88) rfl (by kernel_rfl) (fun _ _ _ h => h) (Or.inl ⟨by rfl, ?hy88⟩) hHeld ?rest88
    case hy88 => (intro w hSw; clear hSw; go_simp; try with_reducible rfl)
    try simp only [List.getElem_toArray, List.getElem_cons_succ, List.getElem_cons_zero, Act.put, List.setIfInBounds_toArray, List.set_cons_succ, List.set_cons_zero]
    refine tkH 1 (v := ?v89) rfl (by kernel_rfl) (fun _ _ _ h => h) (Or.inl ⟨by rfl, ?hy89⟩) hHeld ?rest89
    case hy89 => (intro w hSw; clear hSw; go_simp; try with_reducible rfl)
    try simp only [List.getElem_toArray, List.getElem_cons_succ, List.getElem_cons_zero, Act.put, List.setIfInBounds_toArray, List.set_cons_succ, List.set_cons_zero]
    refine tkH 2 (v := ?v90) rfl (by kernel_rfl) (fun _ _ _ h => h) (Or.inl ⟨by rfl, ?hy90⟩) hHeld ?rest90
    case hy90 => (intro w hSw; clear hSw; go_simp; try with_reducible rfl)
    try simp only [List.getElem_toArray, List.getElem_cons_succ, List.getElem_cons_zero, Act.put, List.setIfInBounds_toArray, List.set_cons_succ, List.set_cons_zero]
    refine tkH 3 (v := ?v91) rfl (by kernel_rfl) (fun _ _ _ h => h) (Or.inl ⟨by rfl, ?hy91⟩) hHeld ?rest91
    case hy91 => (intro w hSw; clear hSw; go_simp; try with_reducible rfl)
    try simp only [List.getElem_toArray, List.getElem_cons_succ, List.getElem_cons_zero, Act.put, List.setIfInBounds_toArray, List.set_cons_succ, List.set_cons_zero]
    refine tkH 4 (v := undef) rfl (by kernel_rfl) (fun _ _ _ h => h) (Or.inr ⟨by rfl, rfl⟩) hHeld ?rest92
    try simp only [List.getElem_toArray, List.getElem_cons_succ, List.getElem_cons_zero, Act.put, List.setIfInBounds_toArray, List.set_cons_succ, List.set_cons_zero]
    refine tkH 5 (v := undef) rfl (by kernel_rfl) (fun _ _ _ h => h) (Or.inr ⟨by rfl, rfl⟩) hHeld ?rest93
    try simp only [List.getElem_toArray, List.getElem_cons_succ, List.getElem_cons_zero, Act.put, List.setIfInBounds_toArray, List.set_cons_succ, List.set_cons_zero]
    refine tkH 6 (v := undef) rfl (by kernel_rfl) (fun _ _ _ h => h) (Or.inr ⟨by rfl, rfl⟩) hHeld ?rest94
    try simp only [List.getElem_toArray, List.getElem_cons_succ, List.getElem_cons_zero, Act.put, List.setIfInBounds_toArray, List.set_cons_succ, List.set_cons_zero]
    refine tkH 7 (v := undef) rfl (by kernel_rfl) (fun _ _ _ h => h) (Or.inr ⟨by rfl, rfl⟩) hHeld ?rest95
    try simp only [List.getElem_toArray, List.getElem_cons_succ, List.getElem_cons_zero, Act.put, List.setIfInBounds_toArray, List.set_cons_succ, List.set_cons_zero]
    refine tkH 8 (v := undef) rfl (by kernel_rfl) (fun _ _ _ h => h) (Or.inr ⟨by rfl, rfl⟩) hHeld ?rest96
    try simp only [List.getElem_toArray, List.getElem_cons_succ, List.getElem_cons_zero, Act.put, List.setIfInBounds_toArray, List.set_cons_succ, List.set_cons_zero]
    refine tkH 9 (v := undef) rfl (by kernel_rfl) (fun _ _ _ h => h) (Or.inr ⟨by rfl, rfl⟩) hHeld ?rest97
    try simp only [List.getElem_toArray, List.getElem_cons_succ, List.getElem_cons_zero, Act.put, List.setIfInBounds_toArray, List.set_cons_succ, List.set_cons_zero]
    refine tkH 10 (v := ?v98) rfl (by kernel_rfl) (fun _ _ _ h => h) (Or.inl ⟨by rfl, ?hy98⟩) hHeld ?rest98
    case hy98 => (intro w hSw; clear hSw; go_simp; try with_reducible rfl)
    try simp only [List.getElem_toArray, List.getElem_cons_succ, List.getElem_cons_zero, Act.put, List.setIfInBounds_toArray, List.set_cons_succ, List.set_cons_zero]
    refine tkH 11 (v := ?v99) rfl (by kernel_rfl) (fun _ _ _ h => h) (Or.inl ⟨by rfl, ?hy99⟩) hHeld ?rest99
    case hy99 => (intro w hSw; clear hSw; go_simp; try with_reducible rfl)
    try simp only [List.getElem_toArray, List.getElem_cons_succ, List.getElem_cons_zero, Act.put, List.setIfInBounds_toArray, List.set_cons_succ, List.set_cons_zero]
    refine tkH 12 (v := undef) rfl (by kernel_rfl) (fun _ _ _ h => h) (Or.inr ⟨by rfl, rfl⟩) hHeld ?rest100
    try simp only [List.getElem_toArray, List.getElem_cons_succ, List.getElem_cons_zero, Act.put, List.setIfInBounds_toArray, List.set_cons_succ, List.set_cons_zero]
    refine tkH 13 (v := undef) rfl (by kernel_rfl) (fun _ _ _ h => h) (Or.inr ⟨by rfl, rfl⟩) hHeld ?rest101
    try simp only [List.getElem_toArray, List.getElem_cons_succ, List.getElem_cons_zero, Act.put, List.setIfInBounds_toArray, List.set_cons_succ, List.set_cons_zero]
    refine tkH 14 (v := undef) rfl (by kernel_rfl) (fun _ _ _ h => h) (Or.inr ⟨by rfl, rfl⟩) hHeld ?rest102
    try simp only [List.getElem_toArray, List.getElem_cons_succ, List.getElem_cons_zero, Act.put, List.setIfInBounds_toArray, List.set_cons_succ, List.set_cons_zero]
    refine tkH 15 (v := undef) rfl (by kernel_rfl) (fun _ _ _ h => h) (Or.inr ⟨by rfl, rfl⟩) hHeld ?rest103
    try simp only [List.getElem_toArray, List.getElem_cons_succ, List.getElem_cons_zero, Act.put, List.setIfInBounds_toArray, List.set_cons_succ, List.set_cons_zero]
    refine tkH 16 (v := ?v104) rfl (by kernel_rfl) (fun _ _ _ h => h) (Or.inl ⟨by rfl, ?hy104⟩) hHeld ?rest104
    case hy104 => (intro w hSw; clear hSw; go_simp; try with_reducible rfl)
    try simp only [List.getElem_toArray, List.getElem_cons_succ, List.getElem_cons_zero, Act.put, List.setIfInBounds_toArray, List.set_cons_succ, List.set_cons_zero]
    refine wpAnyH_done (by kernel_rfl) ?_ _
    have a2 := z0
    have hB := hC0
    clear hHeld z0 hC0
    obtain ⟨rfl, rfl⟩ : P = Idn.zero ∧ B = false := by
      rw [← HP.out, ← HQ.out, propI, HE]
      exact ⟨rfl, rfl⟩
    clear HP HQ HE
    go_wp2_with (first | (refine build_as rfl 27 #[] rfl (C := Idn.zero.arr) ?_ ?_; kernel_rfl) | (refine store_part rfl 27 _ _ rfl (off := 0) (cells := Idn.zero.arr) a2 rfl rfl sizeIdn (Nat.le_refl _) Idn.zero.arr_one ?_; intro w9 b9 k9; rw [Idn.all] at b9; have hB9 : Below w.heap.size w w9 := hB.trans (k9.below1 (by omega) hB.size)))
    exact bodyPost_ret (w := w9) (v := .tuple #[.agg Idn.zero.arr, .bool false]) (ret_two rfl rfl b9 Try.underlying27 rfl sizeIdn rfl) rfl ⟨rfl, hB9⟩
  | cons d0 r =>
    obtain ⟨b, o, rfl, _, hbl, hr⟩ := hL.at nv_length 0 d0 rfl
    clear hr
    obtain ⟨n, hn⟩ : ∃ n, (d0 :: r).length = n := ⟨_, rfl⟩
    have hn0 : ((n : Int) == 0) = false := by rw [← hn, List.length_cons, beq_eq_false_iff_ne]; omega
    have hn1 : (0 : Int) < (n : Int) := by rw [← hn, List.length_cons]; omega
    have hn2 : 0 < n := by omega
    have HN : Hid (r.length + 1 = n) := by show _ = _; rw [← hn, List.length_cons]
    rw [hn] at hn8 ⊢
    clear hn
    go_upto_region 2 with fail
    by_cases hd0 : d0 = s
    rotate_left
    · have HE : proB c m = false := by
        rw [HE0]
        simp [hcs]
        omega
      have n2 : ((d0 : Int) != (s : Int)) = true := by rw [bne_iff_ne]; omega
      clear HE0 HL8
      refine wp_region_held_drew (S := fun w' => Blk w.heap.size (coc c) 35 w' ∧ Li nv 0 (some ⟨b, o, none⟩) (d0 :: r) w') (by kernel_rfl) ⟨a0.drew, hL.below ((Below.refl _ _).drew)⟩ (fun hHeld => ?_)
      refine tkH 0 (v := ?v105) rfl (by kernel_rfl) (fun _ _ _ h => h) (Or.inl ⟨by rfl, ?hy105⟩) hHeld ?rest105
      case hy105 => (intro w hSw; clear hSw; go_simp; try with_reducible rfl)
      try simp only [List.getElem_toArray, List.getElem_cons_succ, List.getElem_cons_zero, Act.put, List.setIfInBounds_toArray, List.set_cons_succ, List.set_cons_zero]
      refine tkH 1 (v := ?v106) rfl (by kernel_rfl) (fun _ _ _ h => h) (Or.inl ⟨by rfl, ?hy106⟩) hHeld ?rest106
      case hy106 => (intro w hSw; clear hSw; go_simp; try with_reducible rfl)
      try simp only [List.getElem_toArray, List.getElem_cons_succ, List.getElem_cons_zero, Act.put, List.setIfInBounds_toArray, List.set_cons_succ, List.set_cons_zero]
      refine tkH 2 (v := ?v107) rfl (by kernel_rfl) (fun _ _ _ h => h) (Or.inl ⟨by rfl, ?hy107⟩) hHeld ?rest107
      case hy107 => (intro w hSw; clear hSw; go_simp; try with_reducible rfl)
      try simp only [List.getElem_toArray, List.getElem_cons_succ, List.getElem_cons_zero, Act.put, List.setIfInBounds_toArray, List.set_cons_succ, List.set_cons_zero]
      refine tkH 3 (v := ?v108) rfl (by kernel_rfl) (fun _ _ _ h => h) (Or.inl ⟨by rfl, ?hy108⟩) hHeld ?rest108
      case hy108 => (intro w hSw; clear hSw; go_simp; try with_reducible rfl)
      try simp only [List.getElem_toArray, List.getElem_cons_succ, List.getElem_cons_zero, Act.put, List.setIfInBounds_toArray, List.set_cons_succ, List.set_cons_zero]
      refine tkH 4 (v := ?v109) rfl (by kernel_rfl) (fun _ _ _ h => h) (Or.inl ⟨by rfl, ?hy109⟩) hHeld ?rest109
      case hy109 => (intro w hSw; clear hSw; go_simp; try with_reducible rfl)
      try simp only [List.getElem_toArray, List.getElem_cons_succ, List.getElem_cons_zero, Act.put, List.setIfInBounds_toArray, List.set_cons_succ, List.set_cons_zero]
      refine tkH 5 (v := ?v110) rfl (by kernel_rfl) (fun _ _ _ h => h) (Or.inl ⟨by rfl, ?hy110⟩) hHeld ?rest110
      case hy110 => (intro w hSw; clear hSw; go_simp; try with_reducible rfl)
      try simp only [List.getElem_toArray, List.getElem_cons_succ, List.getElem_cons_zero, Act.put, List.setIfInBounds_toArray, List.set_cons_succ, List.set_cons_zero]
      refine tkH 6 (v := ?v111) rfl (by kernel_rfl) (fun _ _ _ h => h) (Or.inl ⟨by rfl, ?hy111⟩) hHeld ?rest111
      case hy111 => (intro w hSw; have hc := hSw.2.nat 0 d0 rfl; rw [Nat.add_zero] at hc; clear hSw; go_simp; try with_reducible rfl)
      try simp only [List.getElem_toArray, List.getElem_cons_succ, List.getElem_cons_zero, Act.put, List.setIfInBounds_toArray, List.set_cons_succ, List.set_cons_zero]
      refine tkH 7 (v := ?v112) rfl (by kernel_rfl) (fun _ _ _ h => h) (Or.inl ⟨by rfl, ?hy112⟩) hHeld ?rest112
      case hy112 => (intro w hSw; clear hSw; go_simp; try with_reducible rfl)
      try simp only [List.getElem_toArray, List.getElem_cons_succ, List.getElem_cons_zero, Act.put, List.setIfInBounds_toArray, List.set_cons_succ, List.set_cons_zero]
      refine tkH 8 (v := ?v113) rfl (by kernel_rfl) (fun _ _ _ h => h) (Or.inl ⟨by rfl, ?hy113⟩) hHeld ?rest113
      case hy113 => (intro w hSw; have hc := hSw.1.cell 0 (.int .i64 c.self) rfl; rw [hcs] at hc; clear hSw; go_simp; try with_reducible rfl)
      try simp only [List.getElem_toArray, List.getElem_cons_succ, List.getElem_cons_zero, Act.put, List.setIfInBounds_toArray, List.set_cons_succ, List.set_cons_zero]
      refine tkH 9 (v := ?v114) rfl (by kernel_rfl) (fun _ _ _ h => h) (Or.inl ⟨by rfl, ?hy114⟩) hHeld ?rest114
      case hy114 => (intro w hSw; clear hSw; go_simp; try with_reducible rfl)
      try simp only [List.getElem_toArray, List.getElem_cons_succ, List.getElem_cons_zero, Act.put, List.setIfInBounds_toArray, List.set_cons_succ, List.set_cons_zero]
      refine tkH 10 (v := ?v115) rfl (by kernel_rfl) (fun _ _ _ h => h) (Or.inl ⟨by rfl, ?hy115⟩) hHeld ?rest115
      case hy115 => (intro w hSw; clear hSw; go_simp; try with_reducible rfl)
      try simp only [List.getElem_toArray, List.getElem_cons_succ, List.getElem_cons_zero, Act.put, List.setIfInBounds_toArray, List.set_cons_succ, List.set_cons_zero]
      refine tkH 11 (v := ?v116) rfl (by kernel_rfl) (fun _ _ _ h => h) (Or.inl ⟨by rfl, ?hy116⟩) hHeld ?rest116
      case hy116 => (intro w hSw; clear hSw; go_simp; try with_reducible rfl)
      try simp only [List.getElem_toArray, List.getElem_cons_succ, List.getElem_cons_zero, Act.put, List.setIfInBounds_toArray, List.set_cons_succ, List.set_cons_zero]
      refine tkH 12 (v := undef) rfl (by kernel_rfl) (fun _ _ _ h => h) (Or.inr ⟨by rfl, rfl⟩) hHeld ?rest117
      try simp only [List.getElem_toArray, List.getElem_cons_succ, List.getElem_cons_zero, Act.put, List.setIfInBounds_toArray, List.set_cons_succ, List.set_cons_zero]
      refine tkH 13 (v := undef) rfl (by kernel_rfl) (fun _ _ _ h => h) (Or.inr ⟨by rfl, rfl⟩) hHeld ?rest118
      try simp only [List.getElem_toArray, List.getElem_cons_succ, List.getElem_cons_zero, Act.put, List.setIfInBounds_toArray, List.set_cons_succ, List.set_cons_zero]
      refine tkH 14 (v := undef) rfl (by kernel_rfl) (fun _ _ _ h => h) (Or.inr ⟨by rfl, rfl⟩) hHeld ?rest119
      try simp only [List.getElem_toArray, List.getElem_cons_succ, List.getElem_cons_zero, Act.put, List.setIfInBounds_toArray, List.set_cons_succ, List.set_cons_zero]
      refine tkH 15 (v := undef) rfl (by kernel_rfl) (fun _ _ _ h => h) (Or.inr ⟨by rfl, rfl⟩) hHeld ?rest120
      try simp only [List.getElem_toArray, List.getElem_cons_succ, List.getElem_cons_zero, Act.put, List.setIfInBounds_toArray, List.set_cons_succ, List.set_cons_zero]
      refine tkH 16 (v := ?v121) rfl (by kernel_rfl) (fun _ _ _ h => h) (Or.inl ⟨by rfl, ?hy121⟩) hHeld ?rest121
      case hy121 => (intro w hSw; clear hSw; go_simp; try with_reducible rfl)
      try simp only [List.getElem_toArray, List.getElem_cons_succ, List.getElem_cons_zero, Act.put, List.setIfInBounds_toArray, List.set_cons_succ, List.set_cons_zero]
      refine wpAnyH_done (by kernel_rfl) ?_ _
      have a2 := z0
      have hB := hC0
      clear hHeld z0 hC0
      obtain ⟨rfl, rfl⟩ : P = Idn.zero ∧ B = false := by
        rw [← HP.out, ← HQ.out, propI, HE]
        exact ⟨rfl, rfl⟩
      clear HP HQ HE
      go_wp2_with (first | (refine build_as rfl 27 #[] rfl (C := Idn.zero.arr) ?_ ?_; kernel_rfl) | (refine store_part rfl 27 _ _ rfl (off := 0) (cells := Idn.zero.arr) a2 rfl rfl sizeIdn (Nat.le_refl _) Idn.zero.arr_one ?_; intro w9 b9 k9; rw [Idn.all] at b9; have hB9 : Below w.heap.size w w9 := hB.trans (k9.below1 (by omega) hB.size)))
      exact bodyPost_ret (w := w9) (v := .tuple #[.agg Idn.zero.arr, .bool false]) (ret_two rfl rfl b9 Try.underlying27 rfl sizeIdn rfl) rfl ⟨rfl, hB9⟩
    subst hd0
    have n2 : ((d0 : Int) != (d0 : Int)) = false := by simp
    have hk1 := oth_tail m d0 r HLL
    have hst : standB c m = (mineB c m && !r.any (aboveB c m)) := by rw [standB, hcs, hk1]
    obtain ⟨v, hv⟩ : ∃ v, (if c.epoch = 4294967295 then 0 else c.epoch + 1) = v := ⟨_, rfl⟩
    have hw1 : IntKind.u32.wrap ((c.epoch : Int) + 1) = (v : Int) := by rw [IntKind.wrap_u32, ← hv]; split <;> omega
    by_cases h4 : c.epoch = 4294967295
    · have HE : proB c m = false := by rw [HE0]; simp [h4]
      obtain rfl : v = 0 := by rw [← hv, if_pos h4]
      clear HE0 HL8 hv hst
      refine wp_region_held_drew (S := fun w' => Blk w.heap.size (coc c) 35 w' ∧ Li nv 0 (some ⟨b, o, none⟩) (d0 :: r) w') (by kernel_rfl) ⟨a0.drew, hL.below ((Below.refl _ _).drew)⟩ (fun hHeld => ?_)
      refine tkH 0 (v := ?v122) rfl (by kernel_rfl) (fun _ _ _ h => h) (Or.inl ⟨by rfl, ?hy122⟩) hHeld ?rest122
      case hy122 => (intro w hSw; clear hSw; go_simp; try with_reducible rfl)
      try simp only [List.getElem_toArray, List.getElem_cons_succ, List.getElem_cons_zero, Act.put, List.setIfInBounds_toArray, List.set_cons_succ, List.set_cons_zero]
      refine tkH 1 (v := ?v123) rfl (by kernel_rfl) (fun _ _ _ h => h) (Or.inl ⟨by rfl, ?hy123⟩) hHeld ?rest123
      case hy123 => (intro w hSw; clear hSw; go_simp; try with_reducible rfl)
      try simp only [List.getElem_toArray, List.getElem_cons_succ, List.getElem_cons_zero, Act.put, List.setIfInBounds_toArray, List.set_cons_succ, List.set_cons_zero]
      refine tkH 2 (v := ?v124) rfl (by kernel_rfl) (fun _ _ _ h => h) (Or.inl ⟨by rfl, ?hy124⟩) hHeld ?rest124
      case hy124 => (intro w hSw; clear hSw; go_simp; try with_reducible rfl)
      try simp only [List.getElem_toArray, List.getElem_cons_succ, List.getElem_cons_zero, Act.put, List.setIfInBounds_toArray, List.set_cons_succ, List.set_cons_zero]
      refine tkH 3 (v := ?v125) rfl (by kernel_rfl) (fun _ _ _ h => h) (Or.inl ⟨by rfl, ?hy125⟩) hHeld ?rest125
      case hy125 => (intro w hSw; clear hSw; go_simp; try with_reducible rfl)
      try simp only [List.getElem_toArray, List.getElem_cons_succ, List.getElem_cons_zero, Act.put, List.setIfInBounds_toArray, List.set_cons_succ, List.set_cons_zero]
      refine tkH 4 (v := ?v126) rfl (by kernel_rfl) (fun _ _ _ h => h) (Or.inl ⟨by rfl, ?hy126⟩) hHeld ?rest126
      case hy126 => (intro w hSw; clear hSw; go_simp; try with_reducible rfl)
      try simp only [List.getElem_toArray, List.getElem_cons_succ, List.getElem_cons_zero, Act.put, List.setIfInBounds_toArray, List.set_cons_succ, List.set_cons_zero]
      refine tkH 5 (v := ?v127) rfl (by kernel_rfl) (fun _ _ _ h => h) (Or.inl ⟨by rfl, ?hy127⟩) hHeld ?rest127
      case hy127 => (intro w hSw; clear hSw; go_simp; try with_reducible rfl)
      try simp only [List.getElem_toArray, List.getElem_cons_succ, List.getElem_cons_zero, Act.put, List.setIfInBounds_toArray, List.set_cons_succ, List.set_cons_zero]
      refine tkH 6 (v := ?v128) rfl (by kernel_rfl) (fun _ _ _ h => h) (Or.inl ⟨by rfl, ?hy128⟩) hHeld ?rest128
      case hy128 => (intro w hSw; have hc := hSw.2.nat 0 d0 rfl; rw [Nat.add_zero] at hc; clear hSw; go_simp; try with_reducible rfl)
      try simp only [List.getElem_toArray, List.getElem_cons_succ, List.getElem_cons_zero, Act.put, List.setIfInBounds_toArray, List.set_cons_succ, List.set_cons_zero]
      refine tkH 7 (v := ?v129) rfl (by kernel_rfl) (fun _ _ _ h => h) (Or.inl ⟨by rfl, ?hy129⟩) hHeld ?rest129
      case hy129 => (intro w hSw; clear hSw; go_simp; try with_reducible rfl)
      try simp only [List.getElem_toArray, List.getElem_cons_succ, List.getElem_cons_zero, Act.put, List.setIfInBounds_toArray, List.set_cons_succ, List.set_cons_zero]
      refine tkH 8 (v := ?v130) rfl (by kernel_rfl) (fun _ _ _ h => h) (Or.inl ⟨by rfl, ?hy130⟩) hHeld ?rest130
      case hy130 => (intro w hSw; have hc := hSw.1.cell 0 (.int .i64 c.self) rfl; rw [hcs] at hc; clear hSw; go_simp; try with_reducible rfl)
      try simp only [List.getElem_toArray, List.getElem_cons_succ, List.getElem_cons_zero, Act.put, List.setIfInBounds_toArray, List.set_cons_succ, List.set_cons_zero]
      refine tkH 9 (v := ?v131) rfl (by kernel_rfl) (fun _ _ _ h => h) (Or.inl ⟨by rfl, ?hy131⟩) hHeld ?rest131
      case hy131 => (intro w hSw; clear hSw; go_simp; try with_reducible rfl)
      try simp only [List.getElem_toArray, List.getElem_cons_succ, List.getElem_cons_zero, Act.put, List.setIfInBounds_toArray, List.set_cons_succ, List.set_cons_zero]
      refine tkH 10 (v := ?v132) rfl (by kernel_rfl) (fun _ _ _ h => h) (Or.inl ⟨by rfl, ?hy132⟩) hHeld ?rest132
      case hy132 => (intro w hSw; clear hSw; go_simp; try with_reducible rfl)
      try simp only [List.getElem_toArray, List.getElem_cons_succ, List.getElem_cons_zero, Act.put, List.setIfInBounds_toArray, List.set_cons_succ, List.set_cons_zero]
      refine tkH 11 (v := ?v133) rfl (by kernel_rfl) (fun _ _ _ h => h) (Or.inl ⟨by rfl, ?hy133⟩) hHeld ?rest133
      case hy133 => (intro w hSw; clear hSw; go_simp; try with_reducible rfl)
      try simp only [List.getElem_toArray, List.getElem_cons_succ, List.getElem_cons_zero, Act.put, List.setIfInBounds_toArray, List.set_cons_succ, List.set_cons_zero]
      refine tkH 12 (v := ?v134) rfl (by kernel_rfl) (fun _ _ _ h => h) (Or.inl ⟨by rfl, ?hy134⟩) hHeld ?rest134
      case hy134 => (intro w hSw; clear hSw; go_simp; try with_reducible rfl)
      try simp only [List.getElem_toArray, List.getElem_cons_succ, List.getElem_cons_zero, Act.put, List.setIfInBounds_toArray, List.set_cons_succ, List.set_cons_zero]
      refine tkH 13 (v := ?v135) rfl (by kernel_rfl) (fun _ _ _ h => h) (Or.inl ⟨by rfl, ?hy135⟩) hHeld ?rest135
      case hy135 => (intro w hSw; have hc := hSw.1.cell 188 (.int .u32 (c.epoch : Int)) rfl; clear hSw; go_simp; try with_reducible rfl)
      try simp only [List.getElem_toArray, List.getElem_cons_succ, List.getElem_cons_zero, Act.put, List.setIfInBounds_toArray, List.set_cons_succ, List.set_cons_zero]
      refine tkH 14 (v := ?v136) rfl (by kernel_rfl) (fun _ _ _ h => h) (Or.inl ⟨by rfl, ?hy136⟩) hHeld ?rest136
      case hy136 => (intro w hSw; clear hSw; go_simp; try with_reducible rfl)
      try simp only [List.getElem_toArray, List.getElem_cons_succ, List.getElem_cons_zero, Act.put, List.setIfInBounds_toArray, List.set_cons_succ, List.set_cons_zero]
      refine tkH 15 (v := ?v137) rfl (by kernel_rfl) (fun _ _ _ h => h) (Or.inl ⟨by rfl, ?hy137⟩) hHeld ?rest137
      case hy137 => (intro w hSw; clear hSw; go_simp; try with_reducible rfl)
      try simp only [List.getElem_toArray, List.getElem_cons_succ, List.getElem_cons_zero, Act.put, List.setIfInBounds_toArray, List.set_cons_succ, List.set_cons_zero]
      refine tkH 16 (v := ?v138) rfl (by kernel_rfl) (fun _ _ _ h => h) (Or.inl ⟨by rfl, ?hy138⟩) hHeld ?rest138
      case hy138 => (intro w hSw; clear hSw; go_simp; try with_reducible rfl)
      try simp only [List.getElem_toArray, List.getElem_cons_succ, List.getElem_cons_zero, Act.put, List.setIfInBounds_toArray, List.set_cons_succ, List.set_cons_zero]
      refine wpAnyH_done (by kernel_rfl) ?_ _
      have a2 := z0
      have hB := hC0
      clear hHeld z0 hC0
      obtain ⟨rfl, rfl⟩ : P = Idn.zero ∧ B = false := by
        rw [← HP.out, ← HQ.out, propI, HE]
        exact ⟨rfl, rfl⟩
      clear HP HQ HE
      go_wp2_with (first | (refine build_as rfl 27 #[] rfl (C := Idn.zero.arr) ?_ ?_; kernel_rfl) | (refine store_part rfl 27 _ _ rfl (off := 0) (cells := Idn.zero.arr) a2 rfl rfl sizeIdn (Nat.le_refl _) Idn.zero.arr_one ?_; intro w9 b9 k9; rw [Idn.all] at b9; have hB9 : Below w.heap.size w w9 := hB.trans (k9.below1 (by omega) hB.size)))
      exact bodyPost_ret (w := w9) (v := .tuple #[.agg Idn.zero.arr, .bool false]) (ret_two rfl rfl b9 Try.underlying27 rfl sizeIdn rfl) rfl ⟨rfl, hB9⟩
    have hv1 : c.epoch + 1 = v := by rw [← hv, if_neg h4]
    have n4 : ((v : Int) == 0) = false := by rw [beq_eq_false_iff_ne]; omega
    have HE : Hid (proB c m = !standB c m) := by show _ = _; rw [HE0]; simp [hcs, h4]
    clear HE0 hv
    have ad1 := a1.drew
    have la1 := hL.below ((Below.refl w1.heap.size w1).drew)
    refine wp_region_held_drew (S := fun w' => Blk w.heap.size (coc c) 35 w' ∧ Li nv 0 (some ⟨b, o, none⟩) (d0 :: r) w') (by kernel_rfl) ⟨a0.drew, hL.below ((Below.refl _ _).drew)⟩ (fun hHeld => ?_)
    refine tkH 0 (v := ?v139) rfl (by kernel_rfl) (fun _ _ _ h => h) (Or.inl ⟨by rfl, ?hy139⟩) hHeld ?rest139
    case hy139 => (intro w hSw; clear hSw; go_simp; try with_reducible rfl)
    try simp only [List.getElem_toArray, List.getElem_cons_succ, List.getElem_cons_zero, Act.put, List.setIfInBounds_toArray, List.set_cons_succ, List.set_cons_zero]
    refine tkH 1 (v := ?v140) rfl (by kernel_rfl) (fun _ _ _ h => h) (Or.inl ⟨by rfl, ?hy140⟩) hHeld ?rest140
    case hy140 => (intro w hSw; clear hSw; go_simp; try with_reducible rfl)
    try simp only [List.getElem_toArray, List.getElem_cons_succ, List.getElem_cons_zero, Act.put, List.setIfInBounds_toArray, List.set_cons_succ, List.set_cons_zero]
    refine tkH 2 (v := ?v141) rfl (by kernel_rfl) (fun _ _ _ h => h) (Or.inl ⟨by rfl, ?hy141⟩) hHeld ?rest141
    case hy141 => (intro w hSw; clear hSw; go_simp; try with_reducible rfl)
    try simp only [List.getElem_toArray, List.getElem_cons_succ, List.getElem_cons_zero, Act.put, List.setIfInBounds_toArray, List.set_cons_succ, List.set_cons_zero]
    refine tkH 3 (v := ?v142) rfl (by kernel_rfl) (fun _ _ _ h => h) (Or.inl ⟨by rfl, ?hy142⟩) hHeld ?rest142
    case hy142 => (intro w hSw; clear hSw; go_simp; try with_reducible rfl)
    try simp only [List.getElem_toArray, List.getElem_cons_succ, List.getElem_cons_zero, Act.put, List.setIfInBounds_toArray, List.set_cons_succ, List.set_cons_zero]
    refine tkH 4 (v := ?v143) rfl (by kernel_rfl) (fun _ _ _ h => h) (Or.inl ⟨by rfl, ?hy143⟩) hHeld ?rest143
    case hy143 => (intro w hSw; clear hSw; go_simp; try with_reducible rfl)
    try simp only [List.getElem_toArray, List.getElem_cons_succ, List.getElem_cons_zero, Act.put, List.setIfInBounds_toArray, List.set_cons_succ, List.set_cons_zero]
    refine tkH 5 (v := ?v144) rfl (by kernel_rfl) (fun _ _ _ h => h) (Or.inl ⟨by rfl, ?hy144⟩) hHeld ?rest144
    case hy144 => (intro w hSw; clear hSw; go_simp; try with_reducible rfl)
    try simp only [List.getElem_toArray, List.getElem_cons_succ, List.getElem_cons_zero, Act.put, List.setIfInBounds_toArray, List.set_cons_succ, List.set_cons_zero]
    refine tkH 6 (v := ?v145) rfl (by kernel_rfl) (fun _ _ _ h => h) (Or.inl ⟨by rfl, ?hy145⟩) hHeld ?rest145
    case hy145 => (intro w hSw; have hc := hSw.2.nat 0 d0 rfl; rw [Nat.add_zero] at hc; clear hSw; go_simp; try with_reducible rfl)
    try simp only [List.getElem_toArray, List.getElem_cons_succ, List.getElem_cons_zero, Act.put, List.setIfInBounds_toArray, List.set_cons_succ, List.set_cons_zero]
    refine tkH 7 (v := ?v146) rfl (by kernel_rfl) (fun _ _ _ h => h) (Or.inl ⟨by rfl, ?hy146⟩) hHeld ?rest146
    case hy146 => (intro w hSw; clear hSw; go_simp; try with_reducible rfl)
    try simp only [List.getElem_toArray, List.getElem_cons_succ, List.getElem_cons_zero, Act.put, List.setIfInBounds_toArray, List.set_cons_succ, List.set_cons_zero]
    refine tkH 8 (v := ?v147) rfl (by kernel_rfl) (fun _ _ _ h => h) (Or.inl ⟨by rfl, ?hy147⟩) hHeld ?rest147
    case hy147 => (intro w hSw; have hc := hSw.1.cell 0 (.int .i64 c.self) rfl; rw [hcs] at hc; clear hSw; go_simp; try with_reducible rfl)
    try simp only [List.getElem_toArray, List.getElem_cons_succ, List.getElem_cons_zero, Act.put, List.setIfInBounds_toArray, List.set_cons_succ, List.set_cons_zero]
    refine tkH 9 (v := ?v148) rfl (by kernel_rfl) (fun _ _ _ h => h) (Or.inl ⟨by rfl, ?hy148⟩) hHeld ?rest148
    case hy148 => (intro w hSw; clear hSw; go_simp; try with_reducible rfl)
    try simp only [List.getElem_toArray, List.getElem_cons_succ, List.getElem_cons_zero, Act.put, List.setIfInBounds_toArray, List.set_cons_succ, List.set_cons_zero]
    refine tkH 10 (v := ?v149) rfl (by kernel_rfl) (fun _ _ _ h => h) (Or.inl ⟨by rfl, ?hy149⟩) hHeld ?rest149
    case hy149 => (intro w hSw; clear hSw; go_simp; try with_reducible rfl)
    try simp only [List.getElem_toArray, List.getElem_cons_succ, List.getElem_cons_zero, Act.put, List.setIfInBounds_toArray, List.set_cons_succ, List.set_cons_zero]
    refine tkH 11 (v := ?v150) rfl (by kernel_rfl) (fun _ _ _ h => h) (Or.inl ⟨by rfl, ?hy150⟩) hHeld ?rest150
    case hy150 => (intro w hSw; clear hSw; go_simp; try with_reducible rfl)
    try simp only [List.getElem_toArray, List.getElem_cons_succ, List.getElem_cons_zero, Act.put, List.setIfInBounds_toArray, List.set_cons_succ, List.set_cons_zero]
    refine tkH 12 (v := ?v151) rfl (by kernel_rfl) (fun _ _ _ h => h) (Or.inl ⟨by rfl, ?hy151⟩) hHeld ?rest151
    case hy151 => (intro w hSw; clear hSw; go_simp; try with_reducible rfl)
    try simp only [List.getElem_toArray, List.getElem_cons_succ, List.getElem_cons_zero, Act.put, List.setIfInBounds_toArray, List.set_cons_succ, List.set_cons_zero]
    refine tkH 13 (v := ?v152) rfl (by kernel_rfl) (fun _ _ _ h => h) (Or.inl ⟨by rfl, ?hy152⟩) hHeld ?rest152
    case hy152 => (intro w hSw; have hc := hSw.1.cell 188 (.int .u32 (c.epoch : Int)) rfl; clear hSw; go_simp; try with_reducible rfl)
    try simp only [List.getElem_toArray, List.getElem_cons_succ, List.getElem_cons_zero, Act.put, List.setIfInBounds_toArray, List.set_cons_succ, List.set_cons_zero]
    refine tkH 14 (v := ?v153) rfl (by kernel_rfl) (fun _ _ _ h => h) (Or.inl ⟨by rfl, ?hy153⟩) hHeld ?rest153
    case hy153 => (intro w hSw; clear hSw; go_simp; try with_reducible rfl)
    try simp only [List.getElem_toArray, List.getElem_cons_succ, List.getElem_cons_zero, Act.put, List.setIfInBounds_toArray, List.set_cons_succ, List.set_cons_zero]
    refine tkH 15 (v := ?v154) rfl (by kernel_rfl) (fun _ _ _ h => h) (Or.inl ⟨by rfl, ?hy154⟩) hHeld ?rest154
    case hy154 => (intro w hSw; clear hSw; go_simp; try with_reducible rfl)
    try simp only [List.getElem_toArray, List.getElem_cons_succ, List.getElem_cons_zero, Act.put, List.setIfInBounds_toArray, List.set_cons_succ, List.set_cons_zero]
    refine tkH 16 (v := ?v155) rfl (by kernel_rfl) (fun _ _ _ h => h) (Or.inl ⟨by rfl, ?hy155⟩) hHeld ?rest155
    case hy155 => (intro w hSw; clear hSw; go_simp; try with_reducible rfl)
    try simp only [List.getElem_toArray, List.getElem_cons_succ, List.getElem_cons_zero, Act.put, List.setIfInBounds_toArray, List.set_cons_succ, List.set_cons_zero]
    refine wpAnyH_done (by kernel_rfl) ?_ _
    clear hHeld
    go_upto_region 4 with fail
    have a0 : Blk w.heap.size (coc c) 35 w1.drew := a0.drew
    have a1 : Blk (w.heap.size + 1) (mbc m) 28 w1.drew := a1.drew
    have a2 := z0
    have hB := hC0
    have hL := la1
    clear n2 n4 hn0 hn1 hn2 ad1 la1 z0 hC0
    generalize w1.drew = wz at *
    obtain ⟨M, hM⟩ : ∃ M, mineB c m = M := ⟨_, rfl⟩
    rw [hM] at hst
    go_cut [7] from 30 to 50 (fun v wx => v = .bool M ∧ wx = wz)
    case first =>
      obtain ⟨t1, ht1⟩ : ∃ t, decide ((c.pr.c : Int) = c.self) = t := ⟨_, rfl⟩
      obtain ⟨t2, ht2⟩ : ∃ t, decide (c.pr.i = c.own) = t := ⟨_, rfl⟩
      obtain ⟨t3, ht3⟩ : ∃ t, mbSame c.want m = t := ⟨_, rfl⟩
      have e : M = ((t1 && t2) && t3) := by rw [← hM, mineB, ht1, ht2, ht3]
      have k1 : ((c.pr.c : Int) == (d0 : Int)) = t1 := by rw [← ht1, hcs, Bool.eq_iff_iff, beq_iff_eq, decide_eq_true_iff]
      have k2 : ((c.pr.i : Int) == (c.own : Int)) = t2 := by rw [← ht2, Bool.eq_iff_iff, beq_iff_eq, decide_eq_true_iff]; omega
      have k3 : ∀ w, (binOp .eql 28 (.agg (row8 c.want).toArray) (.agg (mbc m))).run Try.prog w = .ok (.bool t3) w := eqlMb c.want m t3 ht3
      have hwr : IntKind.u32.wrap (d0 : Int) = (d0 : Int) := by rw [IntKind.wrap_u32]; omega
      have c0 := a0.cell 0 (.int .i64 c.self) rfl
      rw [hcs] at c0
      have c1 := a0.cell 41 (.int .u32 (c.pr.c : Int)) rfl
      have c2 := a0.cell 42 (.int .u32 (c.pr.i : Int)) rfl
      have c3 := a0.cell 2 (.int .u32 (c.own : Int)) rfl
      clear ht1 ht2 ht3 hM hst HE
      cases t1 with
      | false =>
        obtain rfl : M = false := by rw [e]; rfl
        have n1 : ¬ (c.pr.c : Int) = (d0 : Int) := by simpa using k1
        clear e
        go_wp2_with fail
        go_meet
        exact ⟨rfl, rfl⟩
      | true =>
        cases t2 with
        | false =>
          obtain rfl : M = false := by rw [e]; rfl
          clear e
          go_wp2_with fail
          go_meet
          exact ⟨rfl, rfl⟩
        | true =>
          obtain rfl : M = t3 := by rw [e]; rfl
          clear e
          go_wp2_with (first | refine load_wpart rfl 28 _ rfl (o := 43) a0 rfl (row8 c.want) c.p_want Try.underlying28 rfl sizeMb ?_ | refine load_want rfl 28 _ rfl a1 rfl Try.underlying28 rfl sizeMb ?_)
          go_meet
          exact ⟨rfl, rfl⟩
    case rest =>
      obtain ⟨rfl, rfl⟩ := hcut
      rename World => wy
      clear hM
      go_wp2_with fail
      go_loopw [7, 8] (fun fv iv wr => ∃ j : Nat, 1 ≤ j ∧ j ≤ n ∧ iv = .int .i64 j ∧ Hid (fv = Value.bool (M && !(r.take (j - 1)).any (aboveB c m))) ∧ Below wy.heap.size wy wr) (fun _ iv _ => n - (intOf iv).toNat)
      case atStart => exact ⟨1, by omega, by have := HN.out; omega, rfl, by show _ = _; simp, Below.refl _ _⟩
      case round =>
        obtain ⟨j, hj1, hj, rfl, h0, hb⟩ := hrel
        by_cases hjn : j < n
        · have j0 : (j : Int) < (n : Int) := by omega
          have j1 : (0 : Int) ≤ (j : Int) := by omega
          obtain ⟨d, hkr⟩ : ∃ k, r[j - 1]? = some k := ⟨_, List.getElem?_eq_getElem (by have := HN.out; omega)⟩
          have hk : (d0 :: r)[j]? = some d := by
            obtain ⟨i, rfl⟩ : ∃ i, j = i + 1 := ⟨j - 1, by omega⟩
            simpa using hkr
          have hd := HL8.out d (List.mem_of_getElem? hk)
          have a := a0.below hb
          have am := a1.below hb
          have l := hL.below hb
          have c0 := l.nat j d hk
          have hp := c.p_peer d hd
          have d1 : (0 : Int) ≤ (d : Int) := by omega
          have d2 : (d : Int) < 8 := by omega
          obtain ⟨t, ht⟩ : ∃ t, decide ((c.peers d).inc = m d) = t := ⟨_, rfl⟩
          have pc := rcmp_ok (c.peers d).pr c.pr
          have h3 := cmpId_cases (c.peers d).pr c.pr
          obtain ⟨q, hq⟩ : ∃ q, cmpId (c.peers d).pr c.pr = q := ⟨_, rfl⟩
          rw [hq] at pc h3
          have hab : aboveB c m d = (t && decide (0 < q)) := by rw [aboveB, ht, hq]
          replace h3 : q = -1 ∨ q = 1 ∨ q = 0 := by rcases h3 with ⟨_, h⟩ | ⟨_, h⟩ | ⟨_, h⟩ <;> simp [h]
          have k1 : (((c.peers d).inc : Int) == (m d : Int)) = t := by rw [← ht, Bool.eq_iff_iff, beq_iff_eq, decide_eq_true_iff]; omega
          have hyes : aboveB c m d = true → Hid (Value.bool false = Value.bool (M && !(r.take (j + 1 - 1)).any (aboveB c m))) := fun h => by
            show _ = _
            rw [show j + 1 - 1 = (j - 1) + 1 by omega, any_take _ r (j - 1) d hkr, h]
            simp
          have hno : aboveB c m d = false → Hid (u7 = Value.bool (M && !(r.take (j + 1 - 1)).any (aboveB c m))) := fun h => by
            show _ = _
            rw [show j + 1 - 1 = (j - 1) + 1 by omega, any_take _ r (j - 1) d hkr, h, Bool.or_false]
            exact h0.out
          clear ht hq hkr h0
          have hb3 := below_box wr (.cells (c.peers d).arr 32)
          have a3 := blk_new wr (c.peers d).arr 32
          go_upto_region 9 with (first | refine load_part rfl 32 _ rfl (o := 60 + d * 16) a rfl (c.peers d).vals hp Try.underlying32 rfl sizePe ?_ | refine alloc_zero zeroPe rfl rfl ?_ | refine store_new rfl 32 _ _ rfl (cells := (c.peers d).arr) rfl rfl sizePe rfl (Pe.arr_one _) ?_)
          try simp only [Act.put, List.setIfInBounds_toArray, List.set_cons_zero, List.set_cons_succ]
          generalize wr.alloc (Obj.cells (c.peers d).arr 32) = W3 at a3 hb3 ⊢
          replace hb := hb.trans (hb3.mono hb.size)
          replace a := a.below hb3
          replace am := am.below hb3
          replace l := l.below hb3
          clear hb3 hp c0
          generalize wr.heap.size = p at *
          have hC0 := hb.drew
          cases t with
          | false =>
            have HS := hno hab
            clear hyes hno hab pc h3
            refine wp_region_held_drew (S := fun w' => Blk p (c.peers d).arr 32 w' ∧ Blk w.heap.size (coc c) 35 w' ∧ Blk (w.heap.size + 1) (mbc m) 28 w' ∧ Li nv 0 (some ⟨b, o, none⟩) (d0 :: r) w') (by kernel_rfl) ⟨a3.drew, a.drew, am.drew, l.below ((Below.refl _ _).drew)⟩ (fun hHeld => ?_)
            refine tkH 0 (v := ?v204) rfl (by kernel_rfl) (fun _ _ _ h => h) (Or.inl ⟨by rfl, ?hy204⟩) hHeld ?rest204
            case hy204 => (intro w hSw; clear hSw; go_simp; try with_reducible rfl)
            try simp only [List.getElem_toArray, List.getElem_cons_succ, List.getElem_cons_zero, Act.put, List.setIfInBounds_toArray, List.set_cons_succ, List.set_cons_zero]
            refine tkH 1 (v := ?v205) rfl (by kernel_rfl) (fun _ _ _ h => h) (Or.inl ⟨by rfl, ?hy205⟩) hHeld ?rest205
            case hy205 => (intro w hSw; have hc := hSw.1.cell 0 (.int .u32 ((c.peers d).inc : Int)) rfl; clear hSw; go_simp; try with_reducible rfl)
            try simp only [List.getElem_toArray, List.getElem_cons_succ, List.getElem_cons_zero, Act.put, List.setIfInBounds_toArray, List.set_cons_succ, List.set_cons_zero]
            refine tkH 2 (v := ?v206) rfl (by kernel_rfl) (fun _ _ _ h => h) (Or.inl ⟨by rfl, ?hy206⟩) hHeld ?rest206
            case hy206 => (intro w hSw; clear hSw; go_simp; try with_reducible rfl)
            try simp only [List.getElem_toArray, List.getElem_cons_succ, List.getElem_cons_zero, Act.put, List.setIfInBounds_toArray, List.set_cons_succ, List.set_cons_zero]
            refine tkH 3 (v := ?v207) rfl (by kernel_rfl) (fun _ _ _ h => h) (Or.inl ⟨by rfl, ?hy207⟩) hHeld ?rest207
            case hy207 => (intro w hSw; clear hSw; go_simp; try with_reducible rfl)
            try simp only [List.getElem_toArray, List.getElem_cons_succ, List.getElem_cons_zero, Act.put, List.setIfInBounds_toArray, List.set_cons_succ, List.set_cons_zero]
            refine tkH 4 (v := ?v208) rfl (by kernel_rfl) (fun _ _ _ h => h) (Or.inl ⟨by rfl, ?hy208⟩) hHeld ?rest208
            case hy208 => (intro w hSw; clear hSw; go_simp; try with_reducible rfl)
            try simp only [List.getElem_toArray, List.getElem_cons_succ, List.getElem_cons_zero, Act.put, List.setIfInBounds_toArray, List.set_cons_succ, List.set_cons_zero]
            refine tkH 5 (v := ?v209) rfl (by kernel_rfl) (fun _ _ _ h => h) (Or.inl ⟨by rfl, ?hy209⟩) hHeld ?rest209
            case hy209 => (intro w hSw; have hc := hSw.2.2.2.nat j d hk; clear hSw; go_simp; try with_reducible rfl)
            try simp only [List.getElem_toArray, List.getElem_cons_succ, List.getElem_cons_zero, Act.put, List.setIfInBounds_toArray, List.set_cons_succ, List.set_cons_zero]
            refine tkH 6 (v := ?v210) rfl (by kernel_rfl) (fun _ _ _ h => h) (Or.inl ⟨by rfl, ?hy210⟩) hHeld ?rest210
            case hy210 => (intro w hSw; clear hSw; go_simp; try with_reducible rfl)
            try simp only [List.getElem_toArray, List.getElem_cons_succ, List.getElem_cons_zero, Act.put, List.setIfInBounds_toArray, List.set_cons_succ, List.set_cons_zero]
            refine tkH 7 (v := ?v211) rfl (by kernel_rfl) (fun _ _ _ h => h) (Or.inl ⟨by rfl, ?hy211⟩) hHeld ?rest211
            case hy211 => (intro w hSw; have hc := hSw.2.2.1.cell d _ (mbc_get m d hd); clear hSw; go_simp; try with_reducible rfl)
            try simp only [List.getElem_toArray, List.getElem_cons_succ, List.getElem_cons_zero, Act.put, List.setIfInBounds_toArray, List.set_cons_succ, List.set_cons_zero]
            refine tkH 8 (v := ?v212) rfl (by kernel_rfl) (fun _ _ _ h => h) (Or.inl ⟨by rfl, ?hy212⟩) hHeld ?rest212
            case hy212 => (intro w hSw; clear hSw; go_simp; try with_reducible rfl)
            try simp only [List.getElem_toArray, List.getElem_cons_succ, List.getElem_cons_zero, Act.put, List.setIfInBounds_toArray, List.set_cons_succ, List.set_cons_zero]
            refine tkH 9 (v := ?v213) rfl (by kernel_rfl) (fun _ _ _ h => h) (Or.inl ⟨by rfl, ?hy213⟩) hHeld ?rest213
            case hy213 => (intro w hSw; clear hSw; go_simp; try with_reducible rfl)
            try simp only [List.getElem_toArray, List.getElem_cons_succ, List.getElem_cons_zero, Act.put, List.setIfInBounds_toArray, List.set_cons_succ, List.set_cons_zero]
            refine tkH 10 (v := undef) rfl (by kernel_rfl) (fun _ _ _ h => h) (Or.inr ⟨by rfl, rfl⟩) hHeld ?rest214
            try simp only [List.getElem_toArray, List.getElem_cons_succ, List.getElem_cons_zero, Act.put, List.setIfInBounds_toArray, List.set_cons_succ, List.set_cons_zero]
            refine tkH 11 (v := undef) rfl (by kernel_rfl) (fun _ _ _ h => h) (Or.inr ⟨by rfl, rfl⟩) hHeld ?rest215
            try simp only [List.getElem_toArray, List.getElem_cons_succ, List.getElem_cons_zero, Act.put, List.setIfInBounds_toArray, List.set_cons_succ, List.set_cons_zero]
            refine tkH 12 (v := undef) rfl (by kernel_rfl) (fun _ _ _ h => h) (Or.inr ⟨by rfl, rfl⟩) hHeld ?rest216
            try simp only [List.getElem_toArray, List.getElem_cons_succ, List.getElem_cons_zero, Act.put, List.setIfInBounds_toArray, List.set_cons_succ, List.set_cons_zero]
            refine tkH 13 (v := undef) rfl (by kernel_rfl) (fun _ _ _ h => h) (Or.inr ⟨by rfl, rfl⟩) hHeld ?rest217
            try simp only [List.getElem_toArray, List.getElem_cons_succ, List.getElem_cons_zero, Act.put, List.setIfInBounds_toArray, List.set_cons_succ, List.set_cons_zero]
            refine tkH 14 (v := undef) rfl (by kernel_rfl) (fun _ _ _ h => h) (Or.inr ⟨by rfl, rfl⟩) hHeld ?rest218
            try simp only [List.getElem_toArray, List.getElem_cons_succ, List.getElem_cons_zero, Act.put, List.setIfInBounds_toArray, List.set_cons_succ, List.set_cons_zero]
            refine tkH 15 (v := undef) rfl (by kernel_rfl) (fun _ _ _ h => h) (Or.inr ⟨by rfl, rfl⟩) hHeld ?rest219
            try simp only [List.getElem_toArray, List.getElem_cons_succ, List.getElem_cons_zero, Act.put, List.setIfInBounds_toArray, List.set_cons_succ, List.set_cons_zero]
            refine tkH 16 (v := ?v220) rfl (by kernel_rfl) (fun _ _ _ h => h) (Or.inl ⟨by rfl, ?hy220⟩) hHeld ?rest220
            case hy220 => (intro w hSw; clear hSw; go_simp; try with_reducible rfl)
            try simp only [List.getElem_toArray, List.getElem_cons_succ, List.getElem_cons_zero, Act.put, List.setIfInBounds_toArray, List.set_cons_succ, List.set_cons_zero]
            refine wpAnyH_done (by kernel_rfl) ?_ _
            clear hHeld
            go_wp2_with fail
            exact ⟨⟨j + 1, by omega, by omega, by go_num, HS, hC0⟩, by simp [intOf]; omega⟩
          | true =>
            rcases h3 with rfl | rfl | rfl
            · have HS := hno hab
              clear hyes hno hab
              refine wp_region_held_drew (S := fun w' => Blk p (c.peers d).arr 32 w' ∧ Blk w.heap.size (coc c) 35 w' ∧ Blk (w.heap.size + 1) (mbc m) 28 w' ∧ Li nv 0 (some ⟨b, o, none⟩) (d0 :: r) w') (by kernel_rfl) ⟨a3.drew, a.drew, am.drew, l.below ((Below.refl _ _).drew)⟩ (fun hHeld => ?_)
              refine tkH 0 (v := ?v156) rfl (by kernel_rfl) (fun _ _ _ h => h) (Or.inl ⟨by rfl, ?hy156⟩) hHeld ?rest156
              case hy156 => (intro w hSw; clear hSw; go_simp; try with_reducible rfl)
              try simp only [List.getElem_toArray, List.getElem_cons_succ, List.getElem_cons_zero, Act.put, List.setIfInBounds_toArray, List.set_cons_succ, List.set_cons_zero]
              refine tkH 1 (v := ?v157) rfl (by kernel_rfl) (fun _ _ _ h => h) (Or.inl ⟨by rfl, ?hy157⟩) hHeld ?rest157
              case hy157 => (intro w hSw; have hc := hSw.1.cell 0 (.int .u32 ((c.peers d).inc : Int)) rfl; clear hSw; go_simp; try with_reducible rfl)
              try simp only [List.getElem_toArray, List.getElem_cons_succ, List.getElem_cons_zero, Act.put, List.setIfInBounds_toArray, List.set_cons_succ, List.set_cons_zero]
              refine tkH 2 (v := ?v158) rfl (by kernel_rfl) (fun _ _ _ h => h) (Or.inl ⟨by rfl, ?hy158⟩) hHeld ?rest158
              case hy158 => (intro w hSw; clear hSw; go_simp; try with_reducible rfl)
              try simp only [List.getElem_toArray, List.getElem_cons_succ, List.getElem_cons_zero, Act.put, List.setIfInBounds_toArray, List.set_cons_succ, List.set_cons_zero]
              refine tkH 3 (v := ?v159) rfl (by kernel_rfl) (fun _ _ _ h => h) (Or.inl ⟨by rfl, ?hy159⟩) hHeld ?rest159
              case hy159 => (intro w hSw; clear hSw; go_simp; try with_reducible rfl)
              try simp only [List.getElem_toArray, List.getElem_cons_succ, List.getElem_cons_zero, Act.put, List.setIfInBounds_toArray, List.set_cons_succ, List.set_cons_zero]
              refine tkH 4 (v := ?v160) rfl (by kernel_rfl) (fun _ _ _ h => h) (Or.inl ⟨by rfl, ?hy160⟩) hHeld ?rest160
              case hy160 => (intro w hSw; clear hSw; go_simp; try with_reducible rfl)
              try simp only [List.getElem_toArray, List.getElem_cons_succ, List.getElem_cons_zero, Act.put, List.setIfInBounds_toArray, List.set_cons_succ, List.set_cons_zero]
              refine tkH 5 (v := ?v161) rfl (by kernel_rfl) (fun _ _ _ h => h) (Or.inl ⟨by rfl, ?hy161⟩) hHeld ?rest161
              case hy161 => (intro w hSw; have hc := hSw.2.2.2.nat j d hk; clear hSw; go_simp; try with_reducible rfl)
              try simp only [List.getElem_toArray, List.getElem_cons_succ, List.getElem_cons_zero, Act.put, List.setIfInBounds_toArray, List.set_cons_succ, List.set_cons_zero]
              refine tkH 6 (v := ?v162) rfl (by kernel_rfl) (fun _ _ _ h => h) (Or.inl ⟨by rfl, ?hy162⟩) hHeld ?rest162
              case hy162 => (intro w hSw; clear hSw; go_simp; try with_reducible rfl)
              try simp only [List.getElem_toArray, List.getElem_cons_succ, List.getElem_cons_zero, Act.put, List.setIfInBounds_toArray, List.set_cons_succ, List.set_cons_zero]
              refine tkH 7 (v := ?v163) rfl (by kernel_rfl) (fun _ _ _ h => h) (Or.inl ⟨by rfl, ?hy163⟩) hHeld ?rest163
              case hy163 => (intro w hSw; have hc := hSw.2.2.1.cell d _ (mbc_get m d hd); clear hSw; go_simp; try with_reducible rfl)
              try simp only [List.getElem_toArray, List.getElem_cons_succ, List.getElem_cons_zero, Act.put, List.setIfInBounds_toArray, List.set_cons_succ, List.set_cons_zero]
              refine tkH 8 (v := ?v164) rfl (by kernel_rfl) (fun _ _ _ h => h) (Or.inl ⟨by rfl, ?hy164⟩) hHeld ?rest164
              case hy164 => (intro w hSw; clear hSw; go_simp; try with_reducible rfl)
              try simp only [List.getElem_toArray, List.getElem_cons_succ, List.getElem_cons_zero, Act.put, List.setIfInBounds_toArray, List.set_cons_succ, List.set_cons_zero]
              refine tkH 9 (v := ?v165) rfl (by kernel_rfl) (fun _ _ _ h => h) (Or.inl ⟨by rfl, ?hy165⟩) hHeld ?rest165
              case hy165 => (intro w hSw; clear hSw; go_simp; try with_reducible rfl)
              try simp only [List.getElem_toArray, List.getElem_cons_succ, List.getElem_cons_zero, Act.put, List.setIfInBounds_toArray, List.set_cons_succ, List.set_cons_zero]
              refine tkH 10 (v := ?v166) rfl (by kernel_rfl) (fun _ _ _ h => h) (Or.inl ⟨by rfl, ?hy166⟩) hHeld ?rest166
              case hy166 => (intro w hSw; clear hSw; go_simp; try with_reducible rfl)
              try simp only [List.getElem_toArray, List.getElem_cons_succ, List.getElem_cons_zero, Act.put, List.setIfInBounds_toArray, List.set_cons_succ, List.set_cons_zero]
              refine' tkH 11 (v := _) rfl (by kernel_rfl) (fun _ _ _ h => h) (yieldsIf_load_mid (by rfl) _ _ rfl p 4 rfl (c.peers d).pr.vals _ ?hS167 Try.underlying27 rfl sizeIdn) hHeld ?rest167
              case hS167 => exact fun w h => h.1.range 4 _ (c.peers d).p_pr
              try simp only [List.getElem_toArray, List.getElem_cons_succ, List.getElem_cons_zero, Act.put, List.setIfInBounds_toArray, List.set_cons_succ, List.set_cons_zero]
              refine tkH 12 (v := ?v168) rfl (by kernel_rfl) (fun _ _ _ h => h) (Or.inl ⟨by rfl, ?hy168⟩) hHeld ?rest168
              case hy168 => (intro w hSw; clear hSw; go_simp; try with_reducible rfl)
              try simp only [List.getElem_toArray, List.getElem_cons_succ, List.getElem_cons_zero, Act.put, List.setIfInBounds_toArray, List.set_cons_succ, List.set_cons_zero]
              refine' tkH 13 (v := _) rfl (by kernel_rfl) (fun _ _ _ h => h) (yieldsIf_load_mid (by rfl) _ _ rfl w.heap.size 40 rfl c.pr.vals _ ?hS169 Try.underlying27 rfl sizeIdn) hHeld ?rest169
              case hS169 => exact fun w h => h.2.1.range 40 _ c.p_pr
              try simp only [List.getElem_toArray, List.getElem_cons_succ, List.getElem_cons_zero, Act.put, List.setIfInBounds_toArray, List.set_cons_succ, List.set_cons_zero]
              refine wpAnyH_ready (rs := [14]) (by kernel_rfl) (by simp) ?_
              refine AllReadyH.cons rfl (fun K hK => ?_) (AllReadyH.nil)
              go_simp
              go_wp2_with (refine (pc _).mono ?_; rintro r u1 ⟨rfl, hb⟩)
              have hC1 := hC0.trans (hb.mono hC0.size)
              refine hK.out _ _ ⟨hHeld.1.below hb, hHeld.2.1.below hb, hHeld.2.2.1.below hb, hHeld.2.2.2.below hb⟩ (fun hHeld => ?_)
              clear hK K hb hC0
              refine tkH 15 (v := ?v170) rfl (by kernel_rfl) (fun _ _ _ h => h) (Or.inl ⟨by rfl, ?hy170⟩) hHeld ?rest170
              case hy170 => (intro w hSw; clear hSw; go_simp; try with_reducible rfl)
              try simp only [List.getElem_toArray, List.getElem_cons_succ, List.getElem_cons_zero, Act.put, List.setIfInBounds_toArray, List.set_cons_succ, List.set_cons_zero]
              refine tkH 16 (v := ?v171) rfl (by kernel_rfl) (fun _ _ _ h => h) (Or.inl ⟨by rfl, ?hy171⟩) hHeld ?rest171
              case hy171 => (intro w hSw; clear hSw; go_simp; try with_reducible rfl)
              try simp only [List.getElem_toArray, List.getElem_cons_succ, List.getElem_cons_zero, Act.put, List.setIfInBounds_toArray, List.set_cons_succ, List.set_cons_zero]
              refine wpAnyH_done (by kernel_rfl) ?_ _
              clear hHeld
              go_wp2_with fail
              exact ⟨⟨j + 1, by omega, by omega, by go_num, HS, hC1⟩, by simp [intOf]; omega⟩
            · have HS := hyes hab
              clear hyes hno hab
              refine wp_region_held_drew (S := fun w' => Blk p (c.peers d).arr 32 w' ∧ Blk w.heap.size (coc c) 35 w' ∧ Blk (w.heap.size + 1) (mbc m) 28 w' ∧ Li nv 0 (some ⟨b, o, none⟩) (d0 :: r) w') (by kernel_rfl) ⟨a3.drew, a.drew, am.drew, l.below ((Below.refl _ _).drew)⟩ (fun hHeld => ?_)
              refine tkH 0 (v := ?v172) rfl (by kernel_rfl) (fun _ _ _ h => h) (Or.inl ⟨by rfl, ?hy172⟩) hHeld ?rest172
              case hy172 => (intro w hSw; clear hSw; go_simp; try with_reducible rfl)
              try simp only [List.getElem_toArray, List.getElem_cons_succ, List.getElem_cons_zero, Act.put, List.setIfInBounds_toArray, List.set_cons_succ, List.set_cons_zero]
              refine tkH 1 (v := ?v173) rfl (by kernel_rfl) (fun _ _ _ h => h) (Or.inl ⟨by rfl, ?hy173⟩) hHeld ?rest173
              case hy173 => (intro w hSw; have hc := hSw.1.cell 0 (.int .u32 ((c.peers d).inc : Int)) rfl; clear hSw; go_simp; try with_reducible rfl)
              try simp only [List.getElem_toArray, List.getElem_cons_succ, List.getElem_cons_zero, Act.put, List.setIfInBounds_toArray, List.set_cons_succ, List.set_cons_zero]
              refine tkH 2 (v := ?v174) rfl (by kernel_rfl) (fun _ _ _ h => h) (Or.inl ⟨by rfl, ?hy174⟩) hHeld ?rest174
              case hy174 => (intro w hSw; clear hSw; go_simp; try with_reducible rfl)
              try simp only [List.getElem_toArray, List.getElem_cons_succ, List.getElem_cons_zero, Act.put, List.setIfInBounds_toArray, List.set_cons_succ, List.set_cons_zero]
              refine tkH 3 (v := ?v175) rfl (by kernel_rfl) (fun _ _ _ h => h) (Or.inl ⟨by rfl, ?hy175⟩) hHeld ?rest175
              case hy175 => (intro w hSw; clear hSw; go_simp; try with_reducible rfl)
              try simp only [List.getElem_toArray, List.getElem_cons_succ, List.getElem_cons_zero, Act.put, List.setIfInBounds_toArray, List.set_cons_succ, List.set_cons_zero]
              refine tkH 4 (v := ?v176) rfl (by kernel_rfl) (fun _ _ _ h => h) (Or.inl ⟨by rfl, ?hy176⟩) hHeld ?rest176
              case hy176 => (intro w hSw; clear hSw; go_simp; try with_reducible rfl)
              try simp only [List.getElem_toArray, List.getElem_cons_succ, List.getElem_cons_zero, Act.put, List.setIfInBounds_toArray, List.set_cons_succ, List.set_cons_zero]
              refine tkH 5 (v := ?v177) rfl (by kernel_rfl) (fun _ _ _ h => h) (Or.inl ⟨by rfl, ?hy177⟩) hHeld ?rest177
              case hy177 => (intro w hSw; have hc := hSw.2.2.2.nat j d hk; clear hSw; go_simp; try with_reducible rfl)
              try simp only [List.getElem_toArray, List.getElem_cons_succ, List.getElem_cons_zero, Act.put, List.setIfInBounds_toArray, List.set_cons_succ, List.set_cons_zero]
              refine tkH 6 (v := ?v178) rfl (by kernel_rfl) (fun _ _ _ h => h) (Or.inl ⟨by rfl, ?hy178⟩) hHeld ?rest178
              case hy178 => (intro w hSw; clear hSw; go_simp; try with_reducible rfl)
              try simp only [List.getElem_toArray, List.getElem_cons_succ, List.getElem_cons_zero, Act.put, List.setIfInBounds_toArray, List.set_cons_succ, List.set_cons_zero]
              refine tkH 7 (v := ?v179) rfl (by kernel_rfl) (fun _ _ _ h => h) (Or.inl ⟨by rfl, ?hy179⟩) hHeld ?rest179
              case hy179 => (intro w hSw; have hc := hSw.2.2.1.cell d _ (mbc_get m d hd); clear hSw; go_simp; try with_reducible rfl)
              try simp only [List.getElem_toArray, List.getElem_cons_succ, List.getElem_cons_zero, Act.put, List.setIfInBounds_toArray, List.set_cons_succ, List.set_cons_zero]
              refine tkH 8 (v := ?v180) rfl (by kernel_rfl) (fun _ _ _ h => h) (Or.inl ⟨by rfl, ?hy180⟩) hHeld ?rest180
              case hy180 => (intro w hSw; clear hSw; go_simp; try with_reducible rfl)
              try simp only [List.getElem_toArray, List.getElem_cons_succ, List.getElem_cons_zero, Act.put, List.setIfInBounds_toArray, List.set_cons_succ, List.set_cons_zero]
              refine tkH 9 (v := ?v181) rfl (by kernel_rfl) (fun _ _ _ h => h) (Or.inl ⟨by rfl, ?hy181⟩) hHeld ?rest181
              case hy181 => (intro w hSw; clear hSw; go_simp; try with_reducible rfl)
              try simp only [List.getElem_toArray, List.getElem_cons_succ, List.getElem_cons_zero, Act.put, List.setIfInBounds_toArray, List.set_cons_succ, List.set_cons_zero]
              refine tkH 10 (v := ?v182) rfl (by kernel_rfl) (fun _ _ _ h => h) (Or.inl ⟨by rfl, ?hy182⟩) hHeld ?rest182
              case hy182 => (intro w hSw; clear hSw; go_simp; try with_reducible rfl)
              try simp only [List.getElem_toArray, List.getElem_cons_succ, List.getElem_cons_zero, Act.put, List.setIfInBounds_toArray, List.set_cons_succ, List.set_cons_zero]
              refine' tkH 11 (v := _) rfl (by kernel_rfl) (fun _ _ _ h => h) (yieldsIf_load_mid (by rfl) _ _ rfl p 4 rfl (c.peers d).pr.vals _ ?hS183 Try.underlying27 rfl sizeIdn) hHeld ?rest183
              case hS183 => exact fun w h => h.1.range 4 _ (c.peers d).p_pr
              try simp only [List.getElem_toArray, List.getElem_cons_succ, List.getElem_cons_zero, Act.put, List.setIfInBounds_toArray, List.set_cons_succ, List.set_cons_zero]
              refine tkH 12 (v := ?v184) rfl (by kernel_rfl) (fun _ _ _ h => h) (Or.inl ⟨by rfl, ?hy184⟩) hHeld ?rest184
              case hy184 => (intro w hSw; clear hSw; go_simp; try with_reducible rfl)
              try simp only [List.getElem_toArray, List.getElem_cons_succ, List.getElem_cons_zero, Act.put, List.setIfInBounds_toArray, List.set_cons_succ, List.set_cons_zero]
              refine' tkH 13 (v := _) rfl (by kernel_rfl) (fun _ _ _ h => h) (yieldsIf_load_mid (by rfl) _ _ rfl w.heap.size 40 rfl c.pr.vals _ ?hS185 Try.underlying27 rfl sizeIdn) hHeld ?rest185
              case hS185 => exact fun w h => h.2.1.range 40 _ c.p_pr
              try simp only [List.getElem_toArray, List.getElem_cons_succ, List.getElem_cons_zero, Act.put, List.setIfInBounds_toArray, List.set_cons_succ, List.set_cons_zero]
              refine wpAnyH_ready (rs := [14]) (by kernel_rfl) (by simp) ?_
              refine AllReadyH.cons rfl (fun K hK => ?_) (AllReadyH.nil)
              go_simp
              go_wp2_with (refine (pc _).mono ?_; rintro r u1 ⟨rfl, hb⟩)
              have hC1 := hC0.trans (hb.mono hC0.size)
              refine hK.out _ _ ⟨hHeld.1.below hb, hHeld.2.1.below hb, hHeld.2.2.1.below hb, hHeld.2.2.2.below hb⟩ (fun hHeld => ?_)
              clear hK K hb hC0
              refine tkH 15 (v := ?v186) rfl (by kernel_rfl) (fun _ _ _ h => h) (Or.inl ⟨by rfl, ?hy186⟩) hHeld ?rest186
              case hy186 => (intro w hSw; clear hSw; go_simp; try with_reducible rfl)
              try simp only [List.getElem_toArray, List.getElem_cons_succ, List.getElem_cons_zero, Act.put, List.setIfInBounds_toArray, List.set_cons_succ, List.set_cons_zero]
              refine tkH 16 (v := ?v187) rfl (by kernel_rfl) (fun _ _ _ h => h) (Or.inl ⟨by rfl, ?hy187⟩) hHeld ?rest187
              case hy187 => (intro w hSw; clear hSw; go_simp; try with_reducible rfl)
              try simp only [List.getElem_toArray, List.getElem_cons_succ, List.getElem_cons_zero, Act.put, List.setIfInBounds_toArray, List.set_cons_succ, List.set_cons_zero]
              refine wpAnyH_done (by kernel_rfl) ?_ _
              clear hHeld
              go_wp2_with fail
              exact ⟨⟨j + 1, by omega, by omega, by go_num, HS, hC1⟩, by simp [intOf]; omega⟩
            · have HS := hno hab
              clear hyes hno hab
              refine wp_region_held_drew (S := fun w' => Blk p (c.peers d).arr 32 w' ∧ Blk w.heap.size (coc c) 35 w' ∧ Blk (w.heap.size + 1) (mbc m) 28 w' ∧ Li nv 0 (some ⟨b, o, none⟩) (d0 :: r) w') (by kernel_rfl) ⟨a3.drew, a.drew, am.drew, l.below ((Below.refl _ _).drew)⟩ (fun hHeld => ?_)
              refine tkH 0 (v := ?v188) rfl (by kernel_rfl) (fun _ _ _ h => h) (Or.inl ⟨by rfl, ?hy188⟩) hHeld ?rest188
              case hy188 => (intro w hSw; clear hSw; go_simp; try with_reducible rfl)
              try simp only [List.getElem_toArray, List.getElem_cons_succ, List.getElem_cons_zero, Act.put, List.setIfInBounds_toArray, List.set_cons_succ, List.set_cons_zero]
              refine tkH 1 (v := ?v189) rfl (by kernel_rfl) (fun _ _ _ h => h) (Or.inl ⟨by rfl, ?hy189⟩) hHeld ?rest189
              case hy189 => (intro w hSw; have hc := hSw.1.cell 0 (.int .u32 ((c.peers d).inc : Int)) rfl; clear hSw; go_simp; try with_reducible rfl)
              try simp only [List.getElem_toArray, List.getElem_cons_succ, List.getElem_cons_zero, Act.put, List.setIfInBounds_toArray, List.set_cons_succ, List.set_cons_zero]
              refine tkH 2 (v := ?v190) rfl (by kernel_rfl) (fun _ _ _ h => h) (Or.inl ⟨by rfl, ?hy190⟩) hHeld ?rest190
              case hy190 => (intro w hSw; clear hSw; go_simp; try with_reducible rfl)
              try simp only [List.getElem_toArray, List.getElem_cons_succ, List.getElem_cons_zero, Act.put, List.setIfInBounds_toArray, List.set_cons_succ, List.set_cons_zero]
              refine tkH 3 (v := ?v191) rfl (by kernel_rfl) (fun _ _ _ h => h) (Or.inl ⟨by rfl, ?hy191⟩) hHeld ?rest191
              case hy191 => (intro w hSw; clear hSw; go_simp; try with_reducible rfl)
              try simp only [List.getElem_toArray, List.getElem_cons_succ, List.getElem_cons_zero, Act.put, List.setIfInBounds_toArray, List.set_cons_succ, List.set_cons_zero]
              refine tkH 4 (v := ?v192) rfl (by kernel_rfl) (fun _ _ _ h => h) (Or.inl ⟨by rfl, ?hy192⟩) hHeld ?rest192
              case hy192 => (intro w hSw; clear hSw; go_simp; try with_reducible rfl)
              try simp only [List.getElem_toArray, List.getElem_cons_succ, List.getElem_cons_zero, Act.put, List.setIfInBounds_toArray, List.set_cons_succ, List.set_cons_zero]
              refine tkH 5 (v := ?v193) rfl (by kernel_rfl) (fun _ _ _ h => h) (Or.inl ⟨by rfl, ?hy193⟩) hHeld ?rest193
              case hy193 => (intro w hSw; have hc := hSw.2.2.2.nat j d hk; clear hSw; go_simp; try with_reducible rfl)
              try simp only [List.getElem_toArray, List.getElem_cons_succ, List.getElem_cons_zero, Act.put, List.setIfInBounds_toArray, List.set_cons_succ, List.set_cons_zero]
              refine tkH 6 (v := ?v194) rfl (by kernel_rfl) (fun _ _ _ h => h) (Or.inl ⟨by rfl, ?hy194⟩) hHeld ?rest194
              case hy194 => (intro w hSw; clear hSw; go_simp; try with_reducible rfl)
              try simp only [List.getElem_toArray, List.getElem_cons_succ, List.getElem_cons_zero, Act.put, List.setIfInBounds_toArray, List.set_cons_succ, List.set_cons_zero]
              refine tkH 7 (v := ?v195) rfl (by kernel_rfl) (fun _ _ _ h => h) (Or.inl ⟨by rfl, ?hy195⟩) hHeld ?rest195
              case hy195 => (intro w hSw; have hc := hSw.2.2.1.cell d _ (mbc_get m d hd); clear hSw; go_simp; try with_reducible rfl)
              try simp only [List.getElem_toArray, List.getElem_cons_succ, List.getElem_cons_zero, Act.put, List.setIfInBounds_toArray, List.set_cons_succ, List.set_cons_zero]
              refine tkH 8 (v := ?v196) rfl (by kernel_rfl) (fun _ _ _ h => h) (Or.inl ⟨by rfl, ?hy196⟩) hHeld ?rest196
              case hy196 => (intro w hSw; clear hSw; go_simp; try with_reducible rfl)
              try simp only [List.getElem_toArray, List.getElem_cons_succ, List.getElem_cons_zero, Act.put, List.setIfInBounds_toArray, List.set_cons_succ, List.set_cons_zero]
              refine tkH 9 (v := ?v197) rfl (by kernel_rfl) (fun _ _ _ h => h) (Or.inl ⟨by rfl, ?hy197⟩) hHeld ?rest197
              case hy197 => (intro w hSw; clear hSw; go_simp; try with_reducible rfl)
              try simp only [List.getElem_toArray, List.getElem_cons_succ, List.getElem_cons_zero, Act.put, List.setIfInBounds_toArray, List.set_cons_succ, List.set_cons_zero]
              refine tkH 10 (v := ?v198) rfl (by kernel_rfl) (fun _ _ _ h => h) (Or.inl ⟨by rfl, ?hy198⟩) hHeld ?rest198
              case hy198 => (intro w hSw; clear hSw; go_simp; try with_reducible rfl)
              try simp only [List.getElem_toArray, List.getElem_cons_succ, List.getElem_cons_zero, Act.put, List.setIfInBounds_toArray, List.set_cons_succ, List.set_cons_zero]
              refine' tkH 11 (v := _) rfl (by kernel_rfl) (fun _ _ _ h => h) (yieldsIf_load_mid (by rfl) _ _ rfl p 4 rfl (c.peers d).pr.vals _ ?hS199 Try.underlying27 rfl sizeIdn) hHeld ?rest199
              case hS199 => exact fun w h => h.1.range 4 _ (c.peers d).p_pr
              try simp only [List.getElem_toArray, List.getElem_cons_succ, List.getElem_cons_zero, Act.put, List.setIfInBounds_toArray, List.set_cons_succ, List.set_cons_zero]
              refine tkH 12 (v := ?v200) rfl (by kernel_rfl) (fun _ _ _ h => h) (Or.inl ⟨by rfl, ?hy200⟩) hHeld ?rest200
              case hy200 => (intro w hSw; clear hSw; go_simp; try with_reducible rfl)
              try simp only [List.getElem_toArray, List.getElem_cons_succ, List.getElem_cons_zero, Act.put, List.setIfInBounds_toArray, List.set_cons_succ, List.set_cons_zero]
              refine' tkH 13 (v := _) rfl (by kernel_rfl) (fun _ _ _ h => h) (yieldsIf_load_mid (by rfl) _ _ rfl w.heap.size 40 rfl c.pr.vals _ ?hS201 Try.underlying27 rfl sizeIdn) hHeld ?rest201
              case hS201 => exact fun w h => h.2.1.range 40 _ c.p_pr
              try simp only [List.getElem_toArray, List.getElem_cons_succ, List.getElem_cons_zero, Act.put, List.setIfInBounds_toArray, List.set_cons_succ, List.set_cons_zero]
              refine wpAnyH_ready (rs := [14]) (by kernel_rfl) (by simp) ?_
              refine AllReadyH.cons rfl (fun K hK => ?_) (AllReadyH.nil)
              go_simp
              go_wp2_with (refine (pc _).mono ?_; rintro r u1 ⟨rfl, hb⟩)
              have hC1 := hC0.trans (hb.mono hC0.size)
              refine hK.out _ _ ⟨hHeld.1.below hb, hHeld.2.1.below hb, hHeld.2.2.1.below hb, hHeld.2.2.2.below hb⟩ (fun hHeld => ?_)
              clear hK K hb hC0
              refine tkH 15 (v := ?v202) rfl (by kernel_rfl) (fun _ _ _ h => h) (Or.inl ⟨by rfl, ?hy202⟩) hHeld ?rest202
              case hy202 => (intro w hSw; clear hSw; go_simp; try with_reducible rfl)
              try simp only [List.getElem_toArray, List.getElem_cons_succ, List.getElem_cons_zero, Act.put, List.setIfInBounds_toArray, List.set_cons_succ, List.set_cons_zero]
              refine tkH 16 (v := ?v203) rfl (by kernel_rfl) (fun _ _ _ h => h) (Or.inl ⟨by rfl, ?hy203⟩) hHeld ?rest203
              case hy203 => (intro w hSw; clear hSw; go_simp; try with_reducible rfl)
              try simp only [List.getElem_toArray, List.getElem_cons_succ, List.getElem_cons_zero, Act.put, List.setIfInBounds_toArray, List.set_cons_succ, List.set_cons_zero]
              refine wpAnyH_done (by kernel_rfl) ?_ _
              clear hHeld
              go_wp2_with fail
              exact ⟨⟨j + 1, by omega, by omega, by go_num, HS, hC1⟩, by simp [intOf]; omega⟩
        · obtain rfl : j = n := by omega
          rw [show j - 1 = r.length by have := HN.out; omega, List.take_length, ← hst] at h0
          replace a0 := a0.below hb
          replace a2 := a2.below hb
          replace hB := hB.trans (hb.mono hB.size)
          have e0 := h0.out
          subst e0
          obtain ⟨S, hS⟩ : ∃ S, standB c m = S := ⟨_, rfl⟩
          rw [hS] at HE ⊢
          clear h0 hst hS hL a1
          cases S with
          | true =>
            obtain ⟨rfl, rfl⟩ : P = Idn.zero ∧ B = false := by
              have e : proB c m = false := HE.out
              rw [← HP.out, ← HQ.out, propI, e]
              exact ⟨rfl, rfl⟩
            clear HP HQ HE
            go_wp2_with (first | (refine build_as rfl 27 #[] rfl (C := Idn.zero.arr) ?_ ?_; kernel_rfl) | (refine store_part rfl 27 _ _ rfl (off := 0) (cells := Idn.zero.arr) a2 rfl rfl sizeIdn (Nat.le_refl _) Idn.zero.arr_one ?_; intro w9 b9 k9; rw [Idn.all] at b9; have hB9 : Below w.heap.size w w9 := hB.trans (k9.below1 (by omega) hB.size)))
            exact bodyPost_ret (w := w9) (v := .tuple #[.agg Idn.zero.arr, .bool false]) (ret_two rfl rfl b9 Try.underlying27 rfl sizeIdn rfl) rfl ⟨rfl, hB9⟩
          | false =>
            obtain ⟨rfl, rfl⟩ : P = ⟨v, d0, c.own⟩ ∧ B = true := by
              have e : proB c m = true := HE.out
              rw [← HP.out, ← HQ.out, propI, e, hcs, ← hv1]
              exact ⟨rfl, rfl⟩
            have c0 := a0.cell 0 (.int .i64 c.self) rfl
            rw [hcs] at c0
            have c1 := a0.cell 188 (.int .u32 (c.epoch : Int)) rfl
            have c2 := a0.cell 2 (.int .u32 (c.own : Int)) rfl
            have hw2 : IntKind.u32.wrap (d0 : Int) = (d0 : Int) := by rw [IntKind.wrap_u32]; omega
            clear HP HQ HE hv1 he h4
            go_wp2_with (first | (refine build_as rfl 27 #[(0, .tmp 85), (1, .tmp 88), (2, .tmp 90)] rfl (C := (Idn.mk v d0 c.own).arr) ?_ ?_; kernel_rfl) | (refine store_part rfl 27 _ _ rfl (off := 0) (cells := (Idn.mk v d0 c.own).arr) a2 rfl rfl sizeIdn (Nat.le_refl _) (Idn.mk v d0 c.own).arr_one ?_; intro w9 b9 k9; rw [Idn.all] at b9; have hB9 : Below w.heap.size w w9 := hB.trans (k9.below1 (by omega) hB.size)))
            exact bodyPost_ret (w := w9) (v := .tuple #[.agg (Idn.mk v d0 c.own).arr, .bool true]) (ret_two rfl rfl b9 Try.underlying27 rfl sizeIdn rfl) rfl ⟨rfl, hB9⟩
end Go.Proofs.Ythgmecgknhphmaa
