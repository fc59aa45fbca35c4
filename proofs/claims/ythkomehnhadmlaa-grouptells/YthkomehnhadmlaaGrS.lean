/-
  The document's Apply of tables: what the call answers.
  Each theorem says its own conditions: lists that memory bears.
-/
import Derived.Test.YthkomehnhadmlaaGrR
import Derived.Test.YthkomehnhadmlaaGrD
namespace Go.Proofs.Ythkomehnhadmlaa
set_option maxRecDepth 10000
set_option linter.unusedSimpArgs false
open Go.RowKit Go.Sort
set_option linter.unusedVariables false
set_option linter.unusedSimpArgs false

/- The same of the document's answer: its list may be the one that was handed in. -/
def RApp (k : Int) (x : Mr) (L : List Mr) (e : Ending) (w' : World) : Prop := ∃ a c, e = .returned (.tuple #[.slice a (appM k x L).length c, .bool (didM k x L)]) ∧ Li Mr.vals 0 a (appM k x L) w'
/- What a join has laid behind j elements: not yet, or ahead of the first that is not ahead of it. -/
def Jn (x : Mr) (L : List Mr) (j : Nat) (l : Bool) (O : List Mr) : Prop := (l = false ∧ O = L.take j ∧ ∀ k ∈ L.take j, lsM k x = true) ∨ (l = true ∧ ∃ p k, p < j ∧ L[p]? = some k ∧ lsM k x = false ∧ (∀ k ∈ L.take p, lsM k x = true) ∧ O = L.take p ++ x :: (L.take j).drop p)
theorem Jn.zero (x : Mr) (L : List Mr) : Jn x L 0 false [] := .inl ⟨rfl, rfl, fun k h => by simp at h⟩
theorem take_more {L : List Mr} {j : Nat} {k : Mr} (hk : L[j]? = some k) : L.take (j + 1) = L.take j ++ [k] := by rw [List.take_add_one, hk]; rfl
theorem Jn.pass {x k : Mr} {L O : List Mr} {j : Nat} (h : Jn x L j false O) (hk : L[j]? = some k) (hl : lsM k x = true) : Jn x L (j + 1) false (O ++ [k]) := by
  rcases h with ⟨_, rfl, h⟩ | ⟨h, _⟩
  · refine .inl ⟨rfl, (take_more hk).symm, fun k' h' => ?_⟩
    rw [take_more hk, List.mem_append] at h'
    rcases h' with h' | h'
    · exact h k' h'
    · simp at h'
      rw [h']
      exact hl
  · cases h
theorem Jn.lay {x k : Mr} {L O : List Mr} {j : Nat} (h : Jn x L j false O) (hk : L[j]? = some k) (hl : lsM k x = false) : Jn x L (j + 1) true (O ++ [x] ++ [k]) := by
  rcases h with ⟨_, rfl, h⟩ | ⟨h, _⟩
  · refine .inr ⟨rfl, j, k, by omega, hk, hl, h, ?_⟩
    rw [take_more hk, List.drop_append_of_le_length (by rw [List.length_take]; have := (List.getElem?_eq_some_iff.1 hk).1; omega), List.drop_of_length_le (by rw [List.length_take]; omega)]
    simp
  · cases h
theorem Jn.more {x k : Mr} {L O : List Mr} {j : Nat} (h : Jn x L j true O) (hk : L[j]? = some k) : Jn x L (j + 1) true (O ++ [k]) := by
  rcases h with ⟨h, _⟩ | ⟨_, p, k', hp, h1, h2, h3, rfl⟩
  · cases h
  · refine .inr ⟨rfl, p, k', by omega, h1, h2, h3, ?_⟩
    rw [take_more hk, List.drop_append_of_le_length (by rw [List.length_take]; have := (List.getElem?_eq_some_iff.1 hk).1; omega)]
    simp
theorem Jn.done {x : Mr} {L O : List Mr} (h : Jn x L L.length true O) : O = insM x L := by
  rcases h with ⟨h, _⟩ | ⟨_, p, k, hp, h1, h2, h3, rfl⟩
  · cases h
  · rw [ins_at x L p k h1 h2 h3, List.take_length]
theorem Jn.last {x : Mr} {L O : List Mr} (h : Jn x L L.length false O) : O ++ [x] = insM x L := by
  rcases h with ⟨_, rfl, h⟩ | ⟨h, _⟩
  · rw [List.take_length] at h ⊢
    rw [ins_end x L h]
  · cases h

set_option maxHeartbeats 8000000 in
theorem rapply_ok (d : Int) (e : En) (L : List Mr) (la : Option Addr) (lc : Nat) (lz : L.length * 24 + 24 ≤ 140737488355328) (w : World) (hS : Li Mr.vals 0 la L w) :
    Calls Try.prog 8 #[.slice la L.length lc, .int .i64 d, .agg e.arr] w fun r w' => RApp e.k (⟨e.g, d, e.se⟩ : Mr) L r w' ∧ Below w.heap.size w w' := by
  obtain ⟨iI, zI, hI, hz0, hsz, hby, hzs⟩ := infoMr
  obtain ⟨x, hx⟩ : ∃ x : Mr, Hid ((⟨e.g, d, e.se⟩ : Mr) = x) := ⟨_, rfl⟩
  simp only [hx.out]
  have ps := rright_ok x
  have ph := rhas_ok x L la lc (by omega)
  have pl := fun k => rgless_ok k x
  obtain ⟨n, hn⟩ : ∃ n, Hid (L.length = n) := ⟨_, rfl⟩
  rw [hn.out] at ph lz ⊢
  obtain ⟨a1, a2, hB⟩ := two_blk (T0 := 25) (T1 := 35) (C0 := e.arr) (C1 := x.arr) (w := w) rfl
  have b0 := blk_new w e.arr 25
  have q2 : (w.alloc (.cells e.arr 25)).cell? ⟨w.heap.size, 2, none⟩ = some (.int .i64 e.g) := b0.cell 2 _ rfl
  have q3 : (w.alloc (.cells e.arr 25)).cell? ⟨w.heap.size, 3, none⟩ = some (.int .u64 (e.se : Int)) := b0.cell 3 _ rfl
  clear b0
  go_enter Try.func8, Try.ntmps8
  go_upto_region 2 with (go_big_may; first | (refine build_as rfl 35 #[(0, .tmp 13), (1, .tmp 14), (2, .tmp 16)] rfl (C := x.arr) ?_ ?_; (rw [← hx.out]; kernel_rfl)) | refine alloc_zero zeroMr rfl rfl ?_ | refine store_new rfl 35 _ _ rfl (cells := x.arr) rfl rfl sizeMr rfl x.arr_one ?_)
  try simp only [Act.put, List.setIfInBounds_toArray, List.set_cons_zero, List.set_cons_succ]
  try simp only [alloc_size]
  clear q2 q3
  generalize hW : (w.alloc (Obj.cells e.arr 25)).alloc (Obj.cells x.arr 35) = W at a1 a2 hB ⊢
  clear hW hx
  cases hr9 : rgtM x with
  | false =>
    rw [hr9] at ps
    have HM : ∀ w', Li Mr.vals 0 la L w' → RApp e.k x L (.returned (.tuple #[.slice la n lc, .bool false])) w' := fun w' h => ⟨la, lc, by rw [(did_no_right (k := e.k) (L := L) hr9).1, (did_no_right (k := e.k) (L := L) hr9).2, hn.out], by rw [(did_no_right (k := e.k) (L := L) hr9).2]; exact h⟩
    clear ph pl hr9
    refine wp_region_held_drew (S := fun v => Below W.heap.size W v) (by kernel_rfl) ((Below.refl _ _).drew) (fun hHeld => ?_)
    refine' tkH 0 (v := _) rfl (by kernel_rfl) (fun _ _ _ h => h) (yieldsIf_load_mid (by rfl) _ _ rfl (w.heap.size + 1) 0 rfl x.vals _ ?hS221 Try.underlying35 rfl sizeMr) hHeld ?rest221
    case hS221 => exact fun w h => ((a2.below h).whole)
    try simp only [yy]
    refine rd1 1 (fun K hK => ?_)
    go_simp
    go_wp2_with (refine (ps _).mono ?_; rintro r u1 ⟨rfl, hb⟩)
    refine hK.out _ _ (below_next hHeld hb) (fun hHeld => ?_)
    clear hK K hb
    refine tkQ 2 hHeld ?_
    try simp only [yy]
    refine tkQ 3 hHeld ?_
    try simp only [yy]
    refine tkU 4 hHeld ?_
    try simp only [yy]
    refine tkU 5 hHeld ?_
    try simp only [yy]
    refine tkU 6 hHeld ?_
    try simp only [yy]
    refine tkU 7 hHeld ?_
    try simp only [yy]
    refine tkU 8 hHeld ?_
    try simp only [yy]
    refine tkU 9 hHeld ?_
    try simp only [yy]
    refine tkU 10 hHeld ?_
    try simp only [yy]
    refine tkU 11 hHeld ?_
    try simp only [yy]
    refine tkQ 12 hHeld ?_
    try simp only [yy]
    refine tkQ 13 hHeld ?_
    try simp only [yy]
    refine tkU 14 hHeld ?_
    try simp only [yy]
    refine tkU 15 hHeld ?_
    try simp only [yy]
    refine tkU 16 hHeld ?_
    try simp only [yy]
    refine tkU 17 hHeld ?_
    try simp only [yy]
    refine tkU 18 hHeld ?_
    try simp only [yy]
    refine tkU 19 hHeld ?_
    try simp only [yy]
    refine tkU 20 hHeld ?_
    try simp only [yy]
    refine tkQ 21 hHeld ?_
    try simp only [yy]
    refine wpAnyH_done (by kernel_rfl) ?_ _
    replace a1 := a1.below hHeld
    replace a2 := a2.below hHeld
    replace hB := below_next hB hHeld
    clear hHeld
    go_wp2_with fail
    go_ret2
    exact ⟨HM _ (hS.below hB), hB⟩
  | true =>
    rw [hr9] at ps
    by_cases k2 : e.k = 2
    · have k3 : e.k ≠ 3 := by omega
      have d2 : (e.k != 2) = false := by simp [k2]
      have d3 : (e.k != 3) = true := by simpa using k3
      have d4 : (e.k == 3) = false := by simpa using k3
      cases hh : hasM3 x L with
      | true =>
        have HE := (did_join (L := L) hr9).1 hh
        rw [← k2] at HE
        rw [hh] at ph
        have HM : ∀ w', Li Mr.vals 0 la L w' → RApp e.k x L (.returned (.tuple #[.slice la n lc, .bool false])) w' := fun w' h => ⟨la, lc, by rw [(HE).1, (HE).2, hn.out], by rw [(HE).2]; exact h⟩
        clear pl hr9 hh HE k2 k3
        refine wp_region_held_drew (S := fun v => Below W.heap.size W v) (by kernel_rfl) ((Below.refl _ _).drew) (fun hHeld => ?_)
        refine' tkH 0 (v := _) rfl (by kernel_rfl) (fun _ _ _ h => h) (yieldsIf_load_mid (by rfl) _ _ rfl (w.heap.size + 1) 0 rfl x.vals _ ?hS242 Try.underlying35 rfl sizeMr) hHeld ?rest242
        case hS242 => exact fun w h => ((a2.below h).whole)
        try simp only [yy]
        refine rd1 1 (fun K hK => ?_)
        go_simp
        go_wp2_with (refine (ps _).mono ?_; rintro r u1 ⟨rfl, hb⟩)
        refine hK.out _ _ (below_next hHeld hb) (fun hHeld => ?_)
        clear hK K hb
        refine tkQ 2 hHeld ?_
        try simp only [yy]
        refine tkQ 3 hHeld ?_
        try simp only [yy]
        refine tkQ 4 hHeld ?_
        try simp only [yy]
        refine tkH 5 (v := ?v246) rfl (by kernel_rfl) (fun _ _ _ h => h) (Or.inl ⟨by rfl, ?hy246⟩) hHeld ?rest246
        case hy246 => (intro w hSw; have hc := (a1.below hSw).cell 0 (.int .i64 e.k) rfl; clear hSw; go_simp; try with_reducible rfl)
        try simp only [yy]
        refine tkQ 6 hHeld ?_
        try simp only [yy]
        refine tkQ 7 hHeld ?_
        try simp only [yy]
        refine tkU 8 hHeld ?_
        try simp only [yy]
        refine tkU 9 hHeld ?_
        try simp only [yy]
        refine tkU 10 hHeld ?_
        try simp only [yy]
        refine tkQ 11 hHeld ?_
        try simp only [yy]
        refine tkQ 12 hHeld ?_
        try simp only [yy]
        refine tkQ 13 hHeld ?_
        try simp only [yy]
        refine tkQ 14 hHeld ?_
        try simp only [yy]
        refine' tkH 15 (v := _) rfl (by kernel_rfl) (fun _ _ _ h => h) (yieldsIf_load_mid (by rfl) _ _ rfl (w.heap.size + 1) 0 rfl x.vals _ ?hS256 Try.underlying35 rfl sizeMr) hHeld ?rest256
        case hS256 => exact fun w h => ((a2.below h).whole)
        try simp only [yy]
        refine tkQ 17 hHeld ?_
        try simp only [yy]
        refine tkH 18 (v := ?v258) rfl (by kernel_rfl) (fun _ _ _ h => h) (Or.inl ⟨by rfl, ?hy258⟩) hHeld ?rest258
        case hy258 => (intro w hSw; have hc := (a1.below hSw).cell 0 (.int .i64 e.k) rfl; clear hSw; go_simp; try with_reducible rfl)
        try simp only [yy]
        refine tkQ 19 hHeld ?_
        try simp only [yy]
        refine rd1 16 (fun K hK => ?_)
        go_simp
        go_wp2_with (refine (ph _ (hS.below (below_next hB hHeld))).mono ?_; rintro r u2 ⟨rfl, hb⟩)
        refine hK.out _ _ (below_next hHeld hb) (fun hHeld => ?_)
        clear hK K hb
        refine tkQ 20 hHeld ?_
        try simp only [yy]
        refine tkQ 21 hHeld ?_
        try simp only [yy]
        refine wpAnyH_done (by kernel_rfl) ?_ _
        replace a1 := a1.below hHeld
        replace a2 := a2.below hHeld
        replace hB := below_next hB hHeld
        clear hHeld
        go_wp2_with fail
        go_ret2
        exact ⟨HM _ (hS.below hB), hB⟩
      | false =>
        have HE := (did_join (L := L) hr9).2 hh
        rw [← k2] at HE
        rw [hh] at ph
        have HM : ∀ w' a c, Li Mr.vals 0 a (insM x L) w' → RApp e.k x L (.returned (.tuple #[.slice a (insM x L).length c, .bool true])) w' := fun w' a c h => ⟨a, c, by rw [HE.1, HE.2], by rw [HE.2]; exact h⟩
        have hhx : Hid (hasM3 x L = false) := hh
        clear hr9 hh HE k2 k3
        refine wp_region_held_drew (S := fun v => Below W.heap.size W v) (by kernel_rfl) ((Below.refl _ _).drew) (fun hHeld => ?_)
        refine' tkH 0 (v := _) rfl (by kernel_rfl) (fun _ _ _ h => h) (yieldsIf_load_mid (by rfl) _ _ rfl (w.heap.size + 1) 0 rfl x.vals _ ?hS262 Try.underlying35 rfl sizeMr) hHeld ?rest262
        case hS262 => exact fun w h => ((a2.below h).whole)
        try simp only [yy]
        refine rd1 1 (fun K hK => ?_)
        go_simp
        go_wp2_with (refine (ps _).mono ?_; rintro r u1 ⟨rfl, hb⟩)
        refine hK.out _ _ (below_next hHeld hb) (fun hHeld => ?_)
        clear hK K hb
        refine tkQ 2 hHeld ?_
        try simp only [yy]
        refine tkQ 3 hHeld ?_
        try simp only [yy]
        refine tkQ 4 hHeld ?_
        try simp only [yy]
        refine tkH 5 (v := ?v266) rfl (by kernel_rfl) (fun _ _ _ h => h) (Or.inl ⟨by rfl, ?hy266⟩) hHeld ?rest266
        case hy266 => (intro w hSw; have hc := (a1.below hSw).cell 0 (.int .i64 e.k) rfl; clear hSw; go_simp; try with_reducible rfl)
        try simp only [yy]
        refine tkQ 6 hHeld ?_
        try simp only [yy]
        refine tkQ 7 hHeld ?_
        try simp only [yy]
        refine tkU 8 hHeld ?_
        try simp only [yy]
        refine tkU 9 hHeld ?_
        try simp only [yy]
        refine tkU 10 hHeld ?_
        try simp only [yy]
        refine tkQ 11 hHeld ?_
        try simp only [yy]
        refine tkQ 12 hHeld ?_
        try simp only [yy]
        refine tkQ 13 hHeld ?_
        try simp only [yy]
        refine tkQ 14 hHeld ?_
        try simp only [yy]
        refine' tkH 15 (v := _) rfl (by kernel_rfl) (fun _ _ _ h => h) (yieldsIf_load_mid (by rfl) _ _ rfl (w.heap.size + 1) 0 rfl x.vals _ ?hS276 Try.underlying35 rfl sizeMr) hHeld ?rest276
        case hS276 => exact fun w h => ((a2.below h).whole)
        try simp only [yy]
        refine tkQ 17 hHeld ?_
        try simp only [yy]
        refine tkH 18 (v := ?v278) rfl (by kernel_rfl) (fun _ _ _ h => h) (Or.inl ⟨by rfl, ?hy278⟩) hHeld ?rest278
        case hy278 => (intro w hSw; have hc := (a1.below hSw).cell 0 (.int .i64 e.k) rfl; clear hSw; go_simp; try with_reducible rfl)
        try simp only [yy]
        refine tkQ 19 hHeld ?_
        try simp only [yy]
        refine rd1 16 (fun K hK => ?_)
        go_simp
        go_wp2_with (refine (ph _ (hS.below (below_next hB hHeld))).mono ?_; rintro r u2 ⟨rfl, hb⟩)
        refine hK.out _ _ (below_next hHeld hb) (fun hHeld => ?_)
        clear hK K hb
        refine tkQ 20 hHeld ?_
        try simp only [yy]
        refine tkQ 21 hHeld ?_
        try simp only [yy]
        refine wpAnyH_done (by kernel_rfl) ?_ _
        replace a1 := a1.below hHeld
        replace a2 := a2.below hHeld
        replace hB := below_next hB hHeld
        clear hHeld
        clear ph ps d2 d3
        rename World => wz
        have hG0 : Lg Mr.vals 3 35 (w.heap.size + 1 + 1) (some ⟨wz.heap.size, 0, none⟩) 0 [] (wz.alloc (.cells #[] 35)) := Lg.of (Ow.empty (blk_new wz #[] 35)) a2.lt
        have hB0 := below_next hB (below_box wz (.cells #[] 35))
        have a10 := a1.below (below_box wz (.cells #[] 35))
        have a20 := a2.below (below_box wz (.cells #[] 35))
        have q0 : (wz.alloc (.cells #[] 35)).cell? ⟨w.heap.size, 0, none⟩ = some (.int .i64 e.k) := a10.cell 0 _ rfl
        clear a1 a2 hB
        go_wp2_with (refine box_Mr0 rfl rfl ?_)
        go_loopw [9, 10, 11] (fun sv lv iv wr => ∃ (j m : Nat) (l : Bool) (a : Option Addr) (c : Nat) (O : List Mr), j ≤ n ∧ m ≤ j + 1 ∧ (l = false → m ≤ j) ∧ iv = .int .i64 j ∧ lv = .bool l ∧ sv = .slice a m c ∧ Hid (O.length = m) ∧ Hid (Jn x L j l O) ∧ Lg Mr.vals 3 35 (w.heap.size + 1 + 1) a c O wr ∧ Blk w.heap.size e.arr 25 wr ∧ Blk (w.heap.size + 1) x.arr 35 wr ∧ Below w.heap.size w wr) (fun _ _ iv _ => n - (intOf iv).toNat)
        case atStart => exact ⟨0, 0, false, _, _, [], by omega, by omega, fun _ => by omega, rfl, by simp, rfl, rfl, Jn.zero x L, hG0, a10, a20, hB0⟩
        case round =>
          clear hG0 hB0 a10 a20 q0
          obtain ⟨j, m, l, a, c, O, hj, hm, hml, rfl, rfl, rfl, HO, HJ, hG, a1, a2, hB⟩ := hrel
          rename World => wr
          by_cases hjn : j < n
          · replace pl := pl
            obtain ⟨k, hk⟩ : ∃ k, L[j]? = some k := ⟨_, List.getElem?_eq_getElem (by rw [hn.out]; exact hjn)⟩
            have hSV := hS.below hB
            obtain ⟨b, o, rfl, _, _, _⟩ := hSV.at Mr.vals_length j k hk
            have j0 : (j : Int) < (n : Int) := by omega
            have j1 : (0 : Int) ≤ (j : Int) := by omega
            replace pl := pl k
            have hne : Hid (Mr.same k x = false) := Mr.same_no (fun e => by
              rw [e] at hk
              rw [(hasM3_iff x L).2 (List.mem_of_getElem? hk)] at hhx
              cases hhx.out)
            cases l with
            | true =>
              have HJ' : Hid (Jn x L (j + 1) true (O ++ [k])) := Jn.more HJ.out hk
              have HO' : Hid ((O ++ [k]).length = m + 1) := by show _ = _; rw [List.length_append, HO.out]; rfl
              have HO9 := HO
              clear hml pl HJ
              go_upto_region 9 with fail
              try simp only [Act.put, List.setIfInBounds_toArray, List.set_cons_zero, List.set_cons_succ]
              refine wp_region_held_drew (S := fun v => Below wr.heap.size wr v) (by kernel_rfl) ((Below.refl _ _).drew) (fun hHeld => ?_)
              refine tkQ 0 hHeld ?_
              try simp only [yy]
              refine tkQ 1 hHeld ?_
              try simp only [yy]
              refine tkQ 2 hHeld ?_
              try simp only [yy]
              refine tkU 3 hHeld ?_
              try simp only [yy]
              refine tkU 4 hHeld ?_
              try simp only [yy]
              refine tkU 5 hHeld ?_
              try simp only [yy]
              refine tkU 6 hHeld ?_
              try simp only [yy]
              refine tkU 7 hHeld ?_
              try simp only [yy]
              refine tkU 8 hHeld ?_
              try simp only [yy]
              refine tkU 9 hHeld ?_
              try simp only [yy]
              refine tkQ 10 hHeld ?_
              try simp only [yy]
              refine wpAnyH_done (by kernel_rfl) ?_ _
              replace a1 := a1.below hHeld
              replace a2 := a2.below hHeld
              replace hG := hG.below hHeld
              replace hB := below_next hB hHeld
              clear hHeld hSV
              generalize wr.drew = wq at a1 a2 hG hB ⊢
              go_upto_region 12 with fail
              obtain ⟨hrw, hblw⟩ : wq.rangeAt b (o + j * 3) k.vals ∧ b < wq.heap.size := by
                obtain ⟨b9, o9, e9, _, h1, h2⟩ := (hS.below hB).at Mr.vals_length j k hk
                injection e9 with e9
                injection e9 with e1 e2 e3
                subst e1 e2
                exact ⟨h2, h1⟩
              have kK : ∀ w, (binOp .neq 35 (.agg k.vals.toArray) (.agg x.arr)).run Try.prog w = .ok (.bool true) w := neqMr k x _ hne.out
              have lb : ∀ w', (∃ p : Regrown, w' = grow (redrawn wq p.d) p.os) → w'.rangeAt b (o + j * 3) k.vals := fun w' ⟨p, e⟩ => e ▸ range_block hrw ((below_regrown wq p.d p.os).block b hblw)
              have la2 := a2.regrown
              clear hrw hblw
              try simp only [Act.put, List.setIfInBounds_toArray, List.set_cons_zero, List.set_cons_succ]
              refine wp_region_quiet_below (by kernel_rfl) (by kernel_rfl) ?_
              repeat (first
                | (go_big_quiet_want; refine quiet_load rfl rfl la2 Try.underlying35 rfl sizeMr ?_; simp only [Act.put, List.setIfInBounds_toArray, List.set_cons_zero, List.set_cons_succ]; go_big_quiet_on)
                | (go_big_quiet_want; refine quiet_range (off := o + j * 3) rfl rfl lb Try.underlying35 rfl sizeMr ?_; simp only [Act.put, List.setIfInBounds_toArray, List.set_cons_zero, List.set_cons_succ]; go_big_quiet_on)
                | go_big_quiet_step (fail))
              refine wpQuiet_nil ?_
              intro _ hw'
              obtain ⟨⟨dq, osq⟩, hw''⟩ := hw'
              have hb := below_regrown wq dq osq
              subst hw''
              generalize grow (redrawn wq dq) osq = w1 at hb ⊢
              replace a1 := a1.below hb
              replace a2 := a2.below hb
              replace hG := hG.below hb
              replace hB := hB.trans (hb.mono hB.size)
              clear hb la2 lb kK
              have hr12 : w1.rangeAt b (o + j * 3) k.vals := by
                obtain ⟨b9, o9, e9, _, h1, h2⟩ := (hS.below hB).at Mr.vals_length j k hk
                injection e9 with e9
                injection e9 with e1 e2 e3
                subst e1 e2
                exact h2
              go_wp2_with (first | refine load_range rfl 35 _ rfl k.vals hr12 rfl Try.underlying35 rfl sizeMr ?_ | (refine box_Mr rfl _ rfl k rfl ?_; intro W5 hl5 hb5; have hG5 := hG.below hb5; have a15 := a1.below hb5; have a25 := a2.below hb5; have hB5 := below_next hB hb5) | (refine append_any Mr.vals_length rfl _ _ rfl Try.underlying22 hI hz0 hsz hby hzs hG5 a25.lt (n := m) HO9.out rfl (M := [k]) (m := 1) rfl (hl5.src Mr.vals_length Mr.vals_one Try.underlying22 1) rfl (by omega) (by simp only [maxLen]; omega) ?_; intro a35 c35 X5 hH5 hK5 _; have b15 := a15.kp hK5 (fun hm9 => by have h9 := (hG5.in _ hm9).1; omega); have b25 := a25.kp hK5 (fun hm9 => by have h9 := (hG5.in _ hm9).1; omega); have hC5 : Below w.heap.size w X5 := hB5.trans (hK5.below (fun k hk => by have h9 := (hG5.in k hk).1; omega) hB5.size)))
              exact ⟨⟨j + 1, m + 1, true, a35, c35, _, by omega, by omega, (fun h => by cases h), by go_num, rfl, by simp, HO', HJ', hH5, b15, b25, hC5⟩, by simp [intOf]; omega⟩
            | false =>
              have hmj := hml rfl
              cases hl : lsM k x with
              | true =>
                rw [hl] at pl
                have HJ' : Hid (Jn x L (j + 1) false (O ++ [k])) := Jn.pass HJ.out hk hl
                have HO' : Hid ((O ++ [k]).length = m + 1) := by show _ = _; rw [List.length_append, HO.out]; rfl
                have HO9 := HO
                clear hml hl HJ
                go_upto_region 9 with fail
                try simp only [Act.put, List.setIfInBounds_toArray, List.set_cons_zero, List.set_cons_succ]
                refine wp_region_held_drew (S := fun v => Below wr.heap.size wr v) (by kernel_rfl) ((Below.refl _ _).drew) (fun hHeld => ?_)
                refine tkQ 0 hHeld ?_
                try simp only [yy]
                refine tkQ 1 hHeld ?_
                try simp only [yy]
                refine tkQ 2 hHeld ?_
                try simp only [yy]
                refine tkQ 3 hHeld ?_
                try simp only [yy]
                refine tkQ 4 hHeld ?_
                try simp only [yy]
                refine tkQ 5 hHeld ?_
                try simp only [yy]
                refine' tkH 6 (v := _) rfl (by kernel_rfl) (fun _ _ _ h => h) (yieldsIf_load_mid (by rfl) _ _ rfl b (o + j * 3) rfl k.vals _ ?hS196 Try.underlying35 rfl sizeMr) hHeld ?rest196
                case hS196 => exact fun w h => ((hSV.below h).rng Mr.vals_length j k hk)
                try simp only [yy]
                refine' tkH 7 (v := _) rfl (by kernel_rfl) (fun _ _ _ h => h) (yieldsIf_load_mid (by rfl) _ _ rfl (w.heap.size + 1) 0 rfl x.vals _ ?hS197 Try.underlying35 rfl sizeMr) hHeld ?rest197
                case hS197 => exact fun w h => ((a2.below h).whole)
                try simp only [yy]
                refine rd1 8 (fun K hK => ?_)
                go_simp
                go_wp2_with (refine (pl _).mono ?_; rintro r u1 ⟨rfl, hb⟩)
                refine hK.out _ _ (below_next hHeld hb) (fun hHeld => ?_)
                clear hK K hb
                refine tkQ 9 hHeld ?_
                try simp only [yy]
                refine tkQ 10 hHeld ?_
                try simp only [yy]
                refine wpAnyH_done (by kernel_rfl) ?_ _
                replace a1 := a1.below hHeld
                replace a2 := a2.below hHeld
                replace hG := hG.below hHeld
                replace hB := below_next hB hHeld
                clear hHeld hSV
                rename World => wq
                go_upto_region 12 with fail
                obtain ⟨hrw, hblw⟩ : wq.rangeAt b (o + j * 3) k.vals ∧ b < wq.heap.size := by
                  obtain ⟨b9, o9, e9, _, h1, h2⟩ := (hS.below hB).at Mr.vals_length j k hk
                  injection e9 with e9
                  injection e9 with e1 e2 e3
                  subst e1 e2
                  exact ⟨h2, h1⟩
                have kK : ∀ w, (binOp .neq 35 (.agg k.vals.toArray) (.agg x.arr)).run Try.prog w = .ok (.bool true) w := neqMr k x _ hne.out
                have lb : ∀ w', (∃ p : Regrown, w' = grow (redrawn wq p.d) p.os) → w'.rangeAt b (o + j * 3) k.vals := fun w' ⟨p, e⟩ => e ▸ range_block hrw ((below_regrown wq p.d p.os).block b hblw)
                have la2 := a2.regrown
                clear hrw hblw
                try simp only [Act.put, List.setIfInBounds_toArray, List.set_cons_zero, List.set_cons_succ]
                refine wp_region_quiet_below (by kernel_rfl) (by kernel_rfl) ?_
                repeat (first
                  | (go_big_quiet_want; refine quiet_load rfl rfl la2 Try.underlying35 rfl sizeMr ?_; simp only [Act.put, List.setIfInBounds_toArray, List.set_cons_zero, List.set_cons_succ]; go_big_quiet_on)
                  | (go_big_quiet_want; refine quiet_range (off := o + j * 3) rfl rfl lb Try.underlying35 rfl sizeMr ?_; simp only [Act.put, List.setIfInBounds_toArray, List.set_cons_zero, List.set_cons_succ]; go_big_quiet_on)
                  | go_big_quiet_step (fail))
                refine wpQuiet_nil ?_
                intro _ hw'
                obtain ⟨⟨dq, osq⟩, hw''⟩ := hw'
                have hb := below_regrown wq dq osq
                subst hw''
                generalize grow (redrawn wq dq) osq = w1 at hb ⊢
                replace a1 := a1.below hb
                replace a2 := a2.below hb
                replace hG := hG.below hb
                replace hB := hB.trans (hb.mono hB.size)
                clear hb la2 lb kK
                have hr12 : w1.rangeAt b (o + j * 3) k.vals := by
                  obtain ⟨b9, o9, e9, _, h1, h2⟩ := (hS.below hB).at Mr.vals_length j k hk
                  injection e9 with e9
                  injection e9 with e1 e2 e3
                  subst e1 e2
                  exact h2
                go_wp2_with (first | refine load_range rfl 35 _ rfl k.vals hr12 rfl Try.underlying35 rfl sizeMr ?_ | (refine box_Mr rfl _ rfl k rfl ?_; intro W5 hl5 hb5; have hG5 := hG.below hb5; have a15 := a1.below hb5; have a25 := a2.below hb5; have hB5 := below_next hB hb5) | (refine append_any Mr.vals_length rfl _ _ rfl Try.underlying22 hI hz0 hsz hby hzs hG5 a25.lt (n := m) HO9.out rfl (M := [k]) (m := 1) rfl (hl5.src Mr.vals_length Mr.vals_one Try.underlying22 1) rfl (by omega) (by simp only [maxLen]; omega) ?_; intro a35 c35 X5 hH5 hK5 _; have b15 := a15.kp hK5 (fun hm9 => by have h9 := (hG5.in _ hm9).1; omega); have b25 := a25.kp hK5 (fun hm9 => by have h9 := (hG5.in _ hm9).1; omega); have hC5 : Below w.heap.size w X5 := hB5.trans (hK5.below (fun k hk => by have h9 := (hG5.in k hk).1; omega) hB5.size)))
                exact ⟨⟨j + 1, m + 1, false, a35, c35, _, by omega, by omega, (fun _ => by omega), by go_num, rfl, by simp, HO', HJ', hH5, b15, b25, hC5⟩, by simp [intOf]; omega⟩
              | false =>
                rw [hl] at pl
                have HJ' : Hid (Jn x L (j + 1) true (O ++ [x] ++ [k])) := Jn.lay HJ.out hk hl
                have HO9 : Hid ((O ++ [x]).length = m + 1) := by show _ = _; rw [List.length_append, HO.out]; rfl
                have HO' : Hid ((O ++ [x] ++ [k]).length = m + 1 + 1) := by show _ = _; rw [List.length_append, HO9.out]; rfl
                clear hml hl HJ
                go_upto_region 9 with fail
                try simp only [Act.put, List.setIfInBounds_toArray, List.set_cons_zero, List.set_cons_succ]
                refine wp_region_held_drew (S := fun v => Below wr.heap.size wr v) (by kernel_rfl) ((Below.refl _ _).drew) (fun hHeld => ?_)
                refine tkQ 0 hHeld ?_
                try simp only [yy]
                refine tkQ 1 hHeld ?_
                try simp only [yy]
                refine tkQ 2 hHeld ?_
                try simp only [yy]
                refine tkQ 3 hHeld ?_
                try simp only [yy]
                refine tkQ 4 hHeld ?_
                try simp only [yy]
                refine tkQ 5 hHeld ?_
                try simp only [yy]
                refine' tkH 6 (v := _) rfl (by kernel_rfl) (fun _ _ _ h => h) (yieldsIf_load_mid (by rfl) _ _ rfl b (o + j * 3) rfl k.vals _ ?hS206 Try.underlying35 rfl sizeMr) hHeld ?rest206
                case hS206 => exact fun w h => ((hSV.below h).rng Mr.vals_length j k hk)
                try simp only [yy]
                refine' tkH 7 (v := _) rfl (by kernel_rfl) (fun _ _ _ h => h) (yieldsIf_load_mid (by rfl) _ _ rfl (w.heap.size + 1) 0 rfl x.vals _ ?hS207 Try.underlying35 rfl sizeMr) hHeld ?rest207
                case hS207 => exact fun w h => ((a2.below h).whole)
                try simp only [yy]
                refine rd1 8 (fun K hK => ?_)
                go_simp
                go_wp2_with (refine (pl _).mono ?_; rintro r u1 ⟨rfl, hb⟩)
                refine hK.out _ _ (below_next hHeld hb) (fun hHeld => ?_)
                clear hK K hb
                refine tkQ 9 hHeld ?_
                try simp only [yy]
                refine tkQ 10 hHeld ?_
                try simp only [yy]
                refine wpAnyH_done (by kernel_rfl) ?_ _
                replace a1 := a1.below hHeld
                replace a2 := a2.below hHeld
                replace hG := hG.below hHeld
                replace hB := below_next hB hHeld
                clear hHeld hSV
                rename World => wq
                go_upto_region 12 with (go_big_may; first | refine load_blk rfl 35 _ rfl a2 rfl Try.underlying35 rfl sizeMr ?_ | (refine box_Mr rfl _ rfl x rfl ?_; intro W4 hl4 hb4; have hG4 := hG.below hb4; have a14 := a1.below hb4; have a24 := a2.below hb4; have hB4 := below_next hB hb4) | (refine append_any Mr.vals_length rfl _ _ rfl Try.underlying22 hI hz0 hsz hby hzs hG4 a24.lt (n := m) HO.out rfl (M := [x]) (m := 1) rfl (hl4.src Mr.vals_length Mr.vals_one Try.underlying22 1) rfl (by omega) (by simp only [maxLen]; omega) ?_; intro a34 c34 X4 hH4 hK4 _; have b14 := a14.kp hK4 (fun hm9 => by have h9 := (hG4.in _ hm9).1; omega); have b24 := a24.kp hK4 (fun hm9 => by have h9 := (hG4.in _ hm9).1; omega); have hC4 : Below w.heap.size w X4 := hB4.trans (hK4.below (fun k hk => by have h9 := (hG4.in k hk).1; omega) hB4.size)))
                replace a1 := b14
                replace a2 := b24
                replace hB := hC4
                replace hG := hH4
                clear b14 b24 hC4 hH4 hG4 a14 a24 hB4 hK4 hl4 hb4
                obtain ⟨hrw, hblw⟩ : X4.rangeAt b (o + j * 3) k.vals ∧ b < X4.heap.size := by
                  obtain ⟨b9, o9, e9, _, h1, h2⟩ := (hS.below hB).at Mr.vals_length j k hk
                  injection e9 with e9
                  injection e9 with e1 e2 e3
                  subst e1 e2
                  exact ⟨h2, h1⟩
                have kK : ∀ w, (binOp .neq 35 (.agg k.vals.toArray) (.agg x.arr)).run Try.prog w = .ok (.bool true) w := neqMr k x _ hne.out
                have lb : ∀ w', (∃ p : Regrown, w' = grow (redrawn X4 p.d) p.os) → w'.rangeAt b (o + j * 3) k.vals := fun w' ⟨p, e⟩ => e ▸ range_block hrw ((below_regrown X4 p.d p.os).block b hblw)
                have la2 := a2.regrown
                clear hrw hblw
                try simp only [Act.put, List.setIfInBounds_toArray, List.set_cons_zero, List.set_cons_succ]
                refine wp_region_quiet_below (by kernel_rfl) (by kernel_rfl) ?_
                repeat (first
                  | (go_big_quiet_want; refine quiet_load rfl rfl la2 Try.underlying35 rfl sizeMr ?_; simp only [Act.put, List.setIfInBounds_toArray, List.set_cons_zero, List.set_cons_succ]; go_big_quiet_on)
                  | (go_big_quiet_want; refine quiet_range (off := o + j * 3) rfl rfl lb Try.underlying35 rfl sizeMr ?_; simp only [Act.put, List.setIfInBounds_toArray, List.set_cons_zero, List.set_cons_succ]; go_big_quiet_on)
                  | go_big_quiet_step (fail))
                refine wpQuiet_nil ?_
                intro _ hw'
                obtain ⟨⟨dq, osq⟩, hw''⟩ := hw'
                have hb := below_regrown X4 dq osq
                subst hw''
                generalize grow (redrawn X4 dq) osq = w1 at hb ⊢
                replace a1 := a1.below hb
                replace a2 := a2.below hb
                replace hG := hG.below hb
                replace hB := hB.trans (hb.mono hB.size)
                clear hb la2 lb kK
                have hr12 : w1.rangeAt b (o + j * 3) k.vals := by
                  obtain ⟨b9, o9, e9, _, h1, h2⟩ := (hS.below hB).at Mr.vals_length j k hk
                  injection e9 with e9
                  injection e9 with e1 e2 e3
                  subst e1 e2
                  exact h2
                go_wp2_with (first | refine load_range rfl 35 _ rfl k.vals hr12 rfl Try.underlying35 rfl sizeMr ?_ | (refine box_Mr rfl _ rfl k rfl ?_; intro W5 hl5 hb5; have hG5 := hG.below hb5; have a15 := a1.below hb5; have a25 := a2.below hb5; have hB5 := below_next hB hb5) | (refine append_any Mr.vals_length rfl _ _ rfl Try.underlying22 hI hz0 hsz hby hzs hG5 a25.lt (n := (m + 1)) HO9.out rfl (M := [k]) (m := 1) rfl (hl5.src Mr.vals_length Mr.vals_one Try.underlying22 1) rfl (by omega) (by simp only [maxLen]; omega) ?_; intro a35 c35 X5 hH5 hK5 _; have b15 := a15.kp hK5 (fun hm9 => by have h9 := (hG5.in _ hm9).1; omega); have b25 := a25.kp hK5 (fun hm9 => by have h9 := (hG5.in _ hm9).1; omega); have hC5 : Below w.heap.size w X5 := hB5.trans (hK5.below (fun k hk => by have h9 := (hG5.in k hk).1; omega) hB5.size)))
                exact ⟨⟨j + 1, (m + 1) + 1, true, a35, c35, _, by omega, by omega, (fun h => by cases h), by go_num, rfl, by simp, HO', HJ', hH5, b15, b25, hC5⟩, by simp [intOf]; omega⟩
          · obtain rfl : j = n := by omega
            cases l with
            | true =>
              have e := Jn.done (by rw [hn.out]; exact HJ.out)
              have HR := HM _ a c (by rw [← e]; exact hG.li.mono (Nat.zero_le _))
              rw [← e, HO.out] at HR
              replace HR : Hid _ := HR
              clear HO HJ hG e a1 a2
              go_wp2_with fail
              go_ret2
              exact ⟨HR.out, hB⟩
            | false =>
              have e := Jn.last (by rw [hn.out]; exact HJ.out)
              have hmj := hml rfl
              clear HJ hml
              go_wp2_with (first | refine load_blk rfl 35 _ rfl a2 rfl Try.underlying35 rfl sizeMr ?_ | (refine box_Mr rfl _ rfl x rfl ?_; intro W4 hl4 hb4; have hG4 := hG.below hb4; have a14 := a1.below hb4; have a24 := a2.below hb4; have hB4 := below_next hB hb4) | (refine append_any Mr.vals_length rfl _ _ rfl Try.underlying22 hI hz0 hsz hby hzs hG4 a24.lt (n := m) HO.out rfl (M := [x]) (m := 1) rfl (hl4.src Mr.vals_length Mr.vals_one Try.underlying22 1) rfl (by omega) (by simp only [maxLen]; omega) ?_; intro a34 c34 X4 hH4 hK4 _; have b14 := a14.kp hK4 (fun hm9 => by have h9 := (hG4.in _ hm9).1; omega); have b24 := a24.kp hK4 (fun hm9 => by have h9 := (hG4.in _ hm9).1; omega); have hC4 : Below w.heap.size w X4 := hB4.trans (hK4.below (fun k hk => by have h9 := (hG4.in k hk).1; omega) hB4.size)))
              have HR := HM _ a34 c34 (by rw [← e]; exact hH4.li.mono (Nat.zero_le _))
              rw [← e, List.length_append, HO.out] at HR
              go_ret2
              exact ⟨HR, hC4⟩
    · by_cases k3 : e.k = 3
      · have d2 : (e.k != 2) = true := by simpa using k2
        have d3 : (e.k != 3) = false := by simp [k3]
        have d4 : (e.k == 3) = true := by simp [k3]
        cases hh : hasM3 x L with
        | false =>
          have HE := (did_leave (L := L) hr9).1 hh
          rw [← k3] at HE
          rw [hh] at ph
          have HM : ∀ w', Li Mr.vals 0 la L w' → RApp e.k x L (.returned (.tuple #[.slice la n lc, .bool false])) w' := fun w' h => ⟨la, lc, by rw [(HE).1, (HE).2, hn.out], by rw [(HE).2]; exact h⟩
          clear pl hr9 hh HE k2 k3
          refine wp_region_held_drew (S := fun v => Below W.heap.size W v) (by kernel_rfl) ((Below.refl _ _).drew) (fun hHeld => ?_)
          refine' tkH 0 (v := _) rfl (by kernel_rfl) (fun _ _ _ h => h) (yieldsIf_load_mid (by rfl) _ _ rfl (w.heap.size + 1) 0 rfl x.vals _ ?hS282 Try.underlying35 rfl sizeMr) hHeld ?rest282
          case hS282 => exact fun w h => ((a2.below h).whole)
          try simp only [yy]
          refine rd1 1 (fun K hK => ?_)
          go_simp
          go_wp2_with (refine (ps _).mono ?_; rintro r u1 ⟨rfl, hb⟩)
          refine hK.out _ _ (below_next hHeld hb) (fun hHeld => ?_)
          clear hK K hb
          refine tkQ 2 hHeld ?_
          try simp only [yy]
          refine tkQ 3 hHeld ?_
          try simp only [yy]
          refine tkQ 4 hHeld ?_
          try simp only [yy]
          refine tkH 5 (v := ?v286) rfl (by kernel_rfl) (fun _ _ _ h => h) (Or.inl ⟨by rfl, ?hy286⟩) hHeld ?rest286
          case hy286 => (intro w hSw; have hc := (a1.below hSw).cell 0 (.int .i64 e.k) rfl; clear hSw; go_simp; try with_reducible rfl)
          try simp only [yy]
          refine tkQ 6 hHeld ?_
          try simp only [yy]
          refine tkQ 7 hHeld ?_
          try simp only [yy]
          refine tkQ 8 hHeld ?_
          try simp only [yy]
          refine tkH 9 (v := ?v290) rfl (by kernel_rfl) (fun _ _ _ h => h) (Or.inl ⟨by rfl, ?hy290⟩) hHeld ?rest290
          case hy290 => (intro w hSw; have hc := (a1.below hSw).cell 0 (.int .i64 e.k) rfl; clear hSw; go_simp; try with_reducible rfl)
          try simp only [yy]
          refine tkQ 10 hHeld ?_
          try simp only [yy]
          refine tkQ 11 hHeld ?_
          try simp only [yy]
          refine tkQ 12 hHeld ?_
          try simp only [yy]
          refine tkQ 13 hHeld ?_
          try simp only [yy]
          refine tkQ 14 hHeld ?_
          try simp only [yy]
          refine' tkH 15 (v := _) rfl (by kernel_rfl) (fun _ _ _ h => h) (yieldsIf_load_mid (by rfl) _ _ rfl (w.heap.size + 1) 0 rfl x.vals _ ?hS296 Try.underlying35 rfl sizeMr) hHeld ?rest296
          case hS296 => exact fun w h => ((a2.below h).whole)
          try simp only [yy]
          refine tkQ 17 hHeld ?_
          try simp only [yy]
          refine tkH 18 (v := ?v298) rfl (by kernel_rfl) (fun _ _ _ h => h) (Or.inl ⟨by rfl, ?hy298⟩) hHeld ?rest298
          case hy298 => (intro w hSw; have hc := (a1.below hSw).cell 0 (.int .i64 e.k) rfl; clear hSw; go_simp; try with_reducible rfl)
          try simp only [yy]
          refine tkQ 19 hHeld ?_
          try simp only [yy]
          refine rd1 16 (fun K hK => ?_)
          go_simp
          go_wp2_with (refine (ph _ (hS.below (below_next hB hHeld))).mono ?_; rintro r u2 ⟨rfl, hb⟩)
          refine hK.out _ _ (below_next hHeld hb) (fun hHeld => ?_)
          clear hK K hb
          refine tkQ 20 hHeld ?_
          try simp only [yy]
          refine tkQ 21 hHeld ?_
          try simp only [yy]
          refine wpAnyH_done (by kernel_rfl) ?_ _
          replace a1 := a1.below hHeld
          replace a2 := a2.below hHeld
          replace hB := below_next hB hHeld
          clear hHeld
          go_wp2_with fail
          go_ret2
          exact ⟨HM _ (hS.below hB), hB⟩
        | true =>
          have HE := (did_leave (L := L) hr9).2 hh
          rw [← k3] at HE
          rw [hh] at ph
          have HM : ∀ w' a c, Li Mr.vals 0 a (outM x L) w' → RApp e.k x L (.returned (.tuple #[.slice a (outM x L).length c, .bool true])) w' := fun w' a c h => ⟨a, c, by rw [HE.1, HE.2], by rw [HE.2]; exact h⟩
          clear hr9 hh HE k2 k3
          refine wp_region_held_drew (S := fun v => Below W.heap.size W v) (by kernel_rfl) ((Below.refl _ _).drew) (fun hHeld => ?_)
          refine' tkH 0 (v := _) rfl (by kernel_rfl) (fun _ _ _ h => h) (yieldsIf_load_mid (by rfl) _ _ rfl (w.heap.size + 1) 0 rfl x.vals _ ?hS302 Try.underlying35 rfl sizeMr) hHeld ?rest302
          case hS302 => exact fun w h => ((a2.below h).whole)
          try simp only [yy]
          refine rd1 1 (fun K hK => ?_)
          go_simp
          go_wp2_with (refine (ps _).mono ?_; rintro r u1 ⟨rfl, hb⟩)
          refine hK.out _ _ (below_next hHeld hb) (fun hHeld => ?_)
          clear hK K hb
          refine tkQ 2 hHeld ?_
          try simp only [yy]
          refine tkQ 3 hHeld ?_
          try simp only [yy]
          refine tkQ 4 hHeld ?_
          try simp only [yy]
          refine tkH 5 (v := ?v306) rfl (by kernel_rfl) (fun _ _ _ h => h) (Or.inl ⟨by rfl, ?hy306⟩) hHeld ?rest306
          case hy306 => (intro w hSw; have hc := (a1.below hSw).cell 0 (.int .i64 e.k) rfl; clear hSw; go_simp; try with_reducible rfl)
          try simp only [yy]
          refine tkQ 6 hHeld ?_
          try simp only [yy]
          refine tkQ 7 hHeld ?_
          try simp only [yy]
          refine tkQ 8 hHeld ?_
          try simp only [yy]
          refine tkH 9 (v := ?v310) rfl (by kernel_rfl) (fun _ _ _ h => h) (Or.inl ⟨by rfl, ?hy310⟩) hHeld ?rest310
          case hy310 => (intro w hSw; have hc := (a1.below hSw).cell 0 (.int .i64 e.k) rfl; clear hSw; go_simp; try with_reducible rfl)
          try simp only [yy]
          refine tkQ 10 hHeld ?_
          try simp only [yy]
          refine tkQ 11 hHeld ?_
          try simp only [yy]
          refine tkQ 12 hHeld ?_
          try simp only [yy]
          refine tkQ 13 hHeld ?_
          try simp only [yy]
          refine tkQ 14 hHeld ?_
          try simp only [yy]
          refine' tkH 15 (v := _) rfl (by kernel_rfl) (fun _ _ _ h => h) (yieldsIf_load_mid (by rfl) _ _ rfl (w.heap.size + 1) 0 rfl x.vals _ ?hS316 Try.underlying35 rfl sizeMr) hHeld ?rest316
          case hS316 => exact fun w h => ((a2.below h).whole)
          try simp only [yy]
          refine tkQ 17 hHeld ?_
          try simp only [yy]
          refine tkH 18 (v := ?v318) rfl (by kernel_rfl) (fun _ _ _ h => h) (Or.inl ⟨by rfl, ?hy318⟩) hHeld ?rest318
          case hy318 => (intro w hSw; have hc := (a1.below hSw).cell 0 (.int .i64 e.k) rfl; clear hSw; go_simp; try with_reducible rfl)
          try simp only [yy]
          refine tkQ 19 hHeld ?_
          try simp only [yy]
          refine rd1 16 (fun K hK => ?_)
          go_simp
          go_wp2_with (refine (ph _ (hS.below (below_next hB hHeld))).mono ?_; rintro r u2 ⟨rfl, hb⟩)
          refine hK.out _ _ (below_next hHeld hb) (fun hHeld => ?_)
          clear hK K hb
          refine tkQ 20 hHeld ?_
          try simp only [yy]
          refine tkQ 21 hHeld ?_
          try simp only [yy]
          refine wpAnyH_done (by kernel_rfl) ?_ _
          replace a1 := a1.below hHeld
          replace a2 := a2.below hHeld
          replace hB := below_next hB hHeld
          clear hHeld
          clear ph ps d2 d3
          rename World => wz
          have hG0 : Lg Mr.vals 3 35 (w.heap.size + 1 + 1) (some ⟨wz.heap.size, 0, none⟩) 0 [] (wz.alloc (.cells #[] 35)) := Lg.of (Ow.empty (blk_new wz #[] 35)) a2.lt
          have hB0 := below_next hB (below_box wz (.cells #[] 35))
          have a10 := a1.below (below_box wz (.cells #[] 35))
          have a20 := a2.below (below_box wz (.cells #[] 35))
          have q0 : (wz.alloc (.cells #[] 35)).cell? ⟨w.heap.size, 0, none⟩ = some (.int .i64 e.k) := a10.cell 0 _ rfl
          clear a1 a2 hB
          go_wp2_with (refine box_Mr0 rfl rfl ?_)
          go_loopw [9, 10, 11] (fun sv lv iv wr => ∃ (j m : Nat) (a : Option Addr) (c : Nat), j ≤ n ∧ m ≤ j ∧ iv = .int .i64 j ∧ lv = .bool true ∧ sv = .slice a m c ∧ Hid ((outM x (L.take j)).length = m) ∧ Lg Mr.vals 3 35 (w.heap.size + 1 + 1) a c (outM x (L.take j)) wr ∧ Blk w.heap.size e.arr 25 wr ∧ Blk (w.heap.size + 1) x.arr 35 wr ∧ Below w.heap.size w wr) (fun _ _ iv _ => n - (intOf iv).toNat)
          case atStart => exact ⟨0, 0, _, _, by omega, by omega, rfl, by simp, rfl, rfl, hG0, a10, a20, hB0⟩
          case round =>
            clear hG0 hB0 a10 a20 q0
            obtain ⟨j, m, a, c, hj, hm, rfl, rfl, rfl, HO9, hG, a1, a2, hB⟩ := hrel
            rename World => wr
            by_cases hjn : j < n
            · clear pl
              obtain ⟨k, hk⟩ : ∃ k, L[j]? = some k := ⟨_, List.getElem?_eq_getElem (by rw [hn.out]; exact hjn)⟩
              have hSV := hS.below hB
              obtain ⟨b, o, rfl, _, _, _⟩ := hSV.at Mr.vals_length j k hk
              have j0 : (j : Int) < (n : Int) := by omega
              have j1 : (0 : Int) ≤ (j : Int) := by omega
              obtain ⟨t, hne⟩ : ∃ t, Hid (Mr.same k x = t) := ⟨_, rfl⟩
              have HT : t = false → Hid (outM x (L.take (j + 1)) = outM x (L.take j) ++ [k]) := fun h => by
                show _ = _
                rw [take_more hk]
                unfold outM
                rw [List.filter_append]
                have h9 := hne.out.trans h
                simp [h9]
              have HN : t = true → Hid (outM x (L.take (j + 1)) = outM x (L.take j)) := fun h => by
                show _ = _
                rw [take_more hk]
                unfold outM
                rw [List.filter_append]
                have h9 := hne.out.trans h
                simp [h9]
              go_upto_region 9 with fail
              try simp only [Act.put, List.setIfInBounds_toArray, List.set_cons_zero, List.set_cons_succ]
              refine wp_region_held_drew (S := fun v => Below wr.heap.size wr v) (by kernel_rfl) ((Below.refl _ _).drew) (fun hHeld => ?_)
              refine tkQ 0 hHeld ?_
              try simp only [yy]
              refine tkQ 1 hHeld ?_
              try simp only [yy]
              refine tkQ 2 hHeld ?_
              try simp only [yy]
              refine tkU 3 hHeld ?_
              try simp only [yy]
              refine tkU 4 hHeld ?_
              try simp only [yy]
              refine tkU 5 hHeld ?_
              try simp only [yy]
              refine tkU 6 hHeld ?_
              try simp only [yy]
              refine tkU 7 hHeld ?_
              try simp only [yy]
              refine tkU 8 hHeld ?_
              try simp only [yy]
              refine tkU 9 hHeld ?_
              try simp only [yy]
              refine tkQ 10 hHeld ?_
              try simp only [yy]
              refine wpAnyH_done (by kernel_rfl) ?_ _
              replace a1 := a1.below hHeld
              replace a2 := a2.below hHeld
              replace hG := hG.below hHeld
              replace hB := below_next hB hHeld
              clear hHeld hSV
              generalize wr.drew = wq at a1 a2 hG hB ⊢
              go_upto_region 12 with fail
              obtain ⟨hrw, hblw⟩ : wq.rangeAt b (o + j * 3) k.vals ∧ b < wq.heap.size := by
                obtain ⟨b9, o9, e9, _, h1, h2⟩ := (hS.below hB).at Mr.vals_length j k hk
                injection e9 with e9
                injection e9 with e1 e2 e3
                subst e1 e2
                exact ⟨h2, h1⟩
              have kK : ∀ w, (binOp .neq 35 (.agg k.vals.toArray) (.agg x.arr)).run Try.prog w = .ok (.bool (!t)) w := neqMr k x _ hne.out
              have lb : ∀ w', (∃ p : Regrown, w' = grow (redrawn wq p.d) p.os) → w'.rangeAt b (o + j * 3) k.vals := fun w' ⟨p, e⟩ => e ▸ range_block hrw ((below_regrown wq p.d p.os).block b hblw)
              have la2 := a2.regrown
              clear hrw hblw
              try simp only [Act.put, List.setIfInBounds_toArray, List.set_cons_zero, List.set_cons_succ]
              refine wp_region_quiet_below (by kernel_rfl) (by kernel_rfl) ?_
              repeat (first
                | (go_big_quiet_want; refine quiet_load rfl rfl la2 Try.underlying35 rfl sizeMr ?_; simp only [Act.put, List.setIfInBounds_toArray, List.set_cons_zero, List.set_cons_succ]; go_big_quiet_on)
                | (go_big_quiet_want; refine quiet_range (off := o + j * 3) rfl rfl lb Try.underlying35 rfl sizeMr ?_; simp only [Act.put, List.setIfInBounds_toArray, List.set_cons_zero, List.set_cons_succ]; go_big_quiet_on)
                | go_big_quiet_step (fail))
              refine wpQuiet_nil ?_
              intro _ hw'
              obtain ⟨⟨dq, osq⟩, hw''⟩ := hw'
              have hb := below_regrown wq dq osq
              subst hw''
              generalize grow (redrawn wq dq) osq = w1 at hb ⊢
              replace a1 := a1.below hb
              replace a2 := a2.below hb
              replace hG := hG.below hb
              replace hB := hB.trans (hb.mono hB.size)
              clear hb la2 lb kK
              cases t with
              | true =>
                have HN' := HN rfl
                have HL : Hid ((outM x (L.take (j + 1))).length = m) := by show _ = _; rw [HN'.out]; exact HO9.out
                rw [← HN'.out] at hG
                clear HT HN hk
                simp only [Bool.not_true]
                go_wp2_with fail
                exact ⟨⟨j + 1, m, a, c, by omega, by omega, by go_num, rfl, rfl, HL, hG, a1, a2, hB⟩, by simp [intOf]; omega⟩
              | false =>
                have HT' := HT rfl
                have HL : Hid ((outM x (L.take (j + 1))).length = m + 1) := by show _ = _; rw [HT'.out, List.length_append, HO9.out]; rfl
                clear HT HN
                simp only [Bool.not_false]
                have hr12 : w1.rangeAt b (o + j * 3) k.vals := by
                  obtain ⟨b9, o9, e9, _, h1, h2⟩ := (hS.below hB).at Mr.vals_length j k hk
                  injection e9 with e9
                  injection e9 with e1 e2 e3
                  subst e1 e2
                  exact h2
                go_wp2_with (first | refine load_range rfl 35 _ rfl k.vals hr12 rfl Try.underlying35 rfl sizeMr ?_ | (refine box_Mr rfl _ rfl k rfl ?_; intro W5 hl5 hb5; have hG5 := hG.below hb5; have a15 := a1.below hb5; have a25 := a2.below hb5; have hB5 := below_next hB hb5) | (refine append_any Mr.vals_length rfl _ _ rfl Try.underlying22 hI hz0 hsz hby hzs hG5 a25.lt (n := m) HO9.out rfl (M := [k]) (m := 1) rfl (hl5.src Mr.vals_length Mr.vals_one Try.underlying22 1) rfl (by omega) (by simp only [maxLen]; omega) ?_; intro a35 c35 X5 hH5 hK5 _; have b15 := a15.kp hK5 (fun hm9 => by have h9 := (hG5.in _ hm9).1; omega); have b25 := a25.kp hK5 (fun hm9 => by have h9 := (hG5.in _ hm9).1; omega); have hC5 : Below w.heap.size w X5 := hB5.trans (hK5.below (fun k hk => by have h9 := (hG5.in k hk).1; omega) hB5.size)))
                have hH6 := hH5
                rw [← HT'.out] at hH6
                exact ⟨⟨j + 1, m + 1, a35, c35, by omega, by omega, by go_num, rfl, by simp, HL, hH6, b15, b25, hC5⟩, by simp [intOf]; omega⟩
            · obtain rfl : j = n := by omega
              have e : L.take j = L := List.take_of_length_le (by rw [hn.out]; exact Nat.le_refl _)
              rw [e] at HO9 hG
              have HR := HM _ a c (hG.li.mono (Nat.zero_le _))
              rw [HO9.out] at HR
              clear e HO9 hG a1 a2 pl
              go_wp2_with fail
              go_ret2
              exact ⟨HR, hB⟩
      · have d2 : (e.k != 2) = true := by simpa using k2
        have d3 : (e.k != 3) = true := by simpa using k3
        have HE := did_other (L := L) (x := x) k2 k3
        have HM : ∀ w', Li Mr.vals 0 la L w' → RApp e.k x L (.returned (.tuple #[.slice la n lc, .bool false])) w' := fun w' h => ⟨la, lc, by rw [(HE).1, (HE).2, hn.out], by rw [(HE).2]; exact h⟩
        clear ph pl hr9 HE k2 k3
        refine wp_region_held_drew (S := fun v => Below W.heap.size W v) (by kernel_rfl) ((Below.refl _ _).drew) (fun hHeld => ?_)
        refine' tkH 0 (v := _) rfl (by kernel_rfl) (fun _ _ _ h => h) (yieldsIf_load_mid (by rfl) _ _ rfl (w.heap.size + 1) 0 rfl x.vals _ ?hS322 Try.underlying35 rfl sizeMr) hHeld ?rest322
        case hS322 => exact fun w h => ((a2.below h).whole)
        try simp only [yy]
        refine rd1 1 (fun K hK => ?_)
        go_simp
        go_wp2_with (refine (ps _).mono ?_; rintro r u1 ⟨rfl, hb⟩)
        refine hK.out _ _ (below_next hHeld hb) (fun hHeld => ?_)
        clear hK K hb
        refine tkQ 2 hHeld ?_
        try simp only [yy]
        refine tkQ 3 hHeld ?_
        try simp only [yy]
        refine tkQ 4 hHeld ?_
        try simp only [yy]
        refine tkH 5 (v := ?v326) rfl (by kernel_rfl) (fun _ _ _ h => h) (Or.inl ⟨by rfl, ?hy326⟩) hHeld ?rest326
        case hy326 => (intro w hSw; have hc := (a1.below hSw).cell 0 (.int .i64 e.k) rfl; clear hSw; go_simp; try with_reducible rfl)
        try simp only [yy]
        refine tkQ 6 hHeld ?_
        try simp only [yy]
        refine tkQ 7 hHeld ?_
        try simp only [yy]
        refine tkQ 8 hHeld ?_
        try simp only [yy]
        refine tkH 9 (v := ?v330) rfl (by kernel_rfl) (fun _ _ _ h => h) (Or.inl ⟨by rfl, ?hy330⟩) hHeld ?rest330
        case hy330 => (intro w hSw; have hc := (a1.below hSw).cell 0 (.int .i64 e.k) rfl; clear hSw; go_simp; try with_reducible rfl)
        try simp only [yy]
        refine tkQ 10 hHeld ?_
        try simp only [yy]
        refine tkQ 11 hHeld ?_
        try simp only [yy]
        refine tkQ 12 hHeld ?_
        try simp only [yy]
        refine tkQ 13 hHeld ?_
        try simp only [yy]
        refine tkU 14 hHeld ?_
        try simp only [yy]
        refine tkU 15 hHeld ?_
        try simp only [yy]
        refine tkU 16 hHeld ?_
        try simp only [yy]
        refine tkU 17 hHeld ?_
        try simp only [yy]
        refine tkU 18 hHeld ?_
        try simp only [yy]
        refine tkU 19 hHeld ?_
        try simp only [yy]
        refine tkU 20 hHeld ?_
        try simp only [yy]
        refine tkQ 21 hHeld ?_
        try simp only [yy]
        refine wpAnyH_done (by kernel_rfl) ?_ _
        replace a1 := a1.below hHeld
        replace a2 := a2.below hHeld
        replace hB := below_next hB hHeld
        clear hHeld
        go_wp2_with fail
        go_ret2
        exact ⟨HM _ (hS.below hB), hB⟩

end Go.Proofs.Ythkomehnhadmlaa
