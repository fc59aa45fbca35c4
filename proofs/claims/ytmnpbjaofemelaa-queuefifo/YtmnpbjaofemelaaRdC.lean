/-
  Which of two places is ahead (round.Before): what the call answers.
  No condition.
-/
import Derived.Test.YtmnpbjaofemelaaRdM
import Derived.Test.YtmnpbjaofemelaaCm
namespace Go.Proofs.Ytmnpbjaofemelaa
set_option maxRecDepth 10000
set_option linter.unusedSimpArgs false
open Go.RowKit Go.Sort

def ordP (a b : Pl) : Int := orI [cmpI a.r b.r, cmpI a.f b.f, cmpI a.s b.s]
theorem ordP_neg (a b : Pl) : decide (ordP a b < 0) = befB a b := by
  unfold ordP befB
  rw [decide_eq_decide]
  simp only [orI]
  rcases cmpI_three (a.r : Int) (b.r : Int) with ⟨h1, h⟩ | ⟨h1, h2, h⟩ | ⟨h1, h2, h⟩
  · rw [h, if_neg (by decide)]
    constructor
    · intro _; left; omega
    · intro _; omega
  · rw [h, if_neg (by decide)]
    constructor
    · intro hh; omega
    · rintro (hh | ⟨hh, _⟩) <;> omega
  · rw [h, if_pos rfl]
    have e : a.r = b.r := by omega
    rcases cmpI_three a.f b.f with ⟨h3, h⟩ | ⟨h3, h4, h⟩ | ⟨h3, h4, h⟩
    · rw [h, if_neg (by decide)]
      constructor
      · intro _; right; exact ⟨e, .inl h3⟩
      · intro _; omega
    · rw [h, if_neg (by decide)]
      constructor
      · intro hh; omega
      · rintro (hh | ⟨_, hh | ⟨hh, _⟩⟩) <;> omega
    · rw [h, if_pos rfl]
      have e2 : a.f = b.f := by omega
      rcases cmpI_three a.s b.s with ⟨h5, h⟩ | ⟨h5, h6, h⟩ | ⟨h5, h6, h⟩
      · rw [h, if_neg (by decide)]
        constructor
        · intro _; right; exact ⟨e, .inr ⟨e2, h5⟩⟩
        · intro _; omega
      · rw [h, if_neg (by decide)]
        constructor
        · intro hh; omega
        · rintro (hh | ⟨_, hh | ⟨_, hh⟩⟩) <;> omega
      · rw [h, if_pos rfl]
        constructor
        · intro hh; omega
        · rintro (hh | ⟨_, hh | ⟨_, hh⟩⟩) <;> omega

set_option maxHeartbeats 2000000 in
theorem bef_ok (a b : Pl) (w : World) : Calls Try.prog 31 #[.agg a.arr, .agg b.arr] w fun e w' => e = .returned (.bool (befB a b)) ∧ Below w.heap.size w w' := by
  obtain ⟨R, hR⟩ : ∃ R, Hid (ordP a b = R) := ⟨_, rfl⟩
  obtain ⟨V, hV⟩ : ∃ V, befB a b = V := ⟨_, rfl⟩
  rw [hV]
  have hN : decide (R < 0) = V := by rw [← hV, ← hR.out]; exact ordP_neg a b
  clear hV
  have b1 := (blk_new w a.arr 42).alloc (.cells b.arr 42)
  have b2 := blk_new (w.alloc (.cells a.arr 42)) b.arr 42
  have hs : (w.alloc (.cells a.arr 42)).heap.size = w.heap.size + 1 := by simp
  have hB : Below w.heap.size w ((w.alloc (.cells a.arr 42)).alloc (.cells b.arr 42)) := (below_box w _).alloc (by simp) _
  rw [hs] at b2
  obtain ⟨W, hW⟩ : ∃ W, (w.alloc (.cells a.arr 42)).alloc (.cells b.arr 42) = W := ⟨_, rfl⟩
  rw [hW] at b1 b2 hB
  obtain ⟨x, hx⟩ : ∃ x, Hid (cmpI a.r b.r = x) := ⟨_, rfl⟩
  obtain ⟨y, hy⟩ : ∃ x, Hid (cmpI a.f b.f = x) := ⟨_, rfl⟩
  obtain ⟨z, hz⟩ : ∃ x, Hid (cmpI a.s b.s = x) := ⟨_, rfl⟩
  have p0 := cmpU_ok a.r b.r
  have p1 := cmpI_ok a.f b.f
  have p2 := cmpI_ok a.s b.s
  have hc : orI [x, y, z] = R := by rw [← hR.out, ← hx.out, ← hy.out, ← hz.out]; rfl
  rw [hx.out] at p0
  rw [hy.out] at p1
  rw [hz.out] at p2
  have or3_ok : ∀ {g : Nat} {u : World}, Blk g (flat iv [x, y, z]).toArray 3 u → Calls Try.prog 38 #[.slice (some ⟨g, 0, none⟩) 3 3] u fun e w' => e = .returned (.int .i64 R) ∧ w' = u := fun h => by
    rw [← hc]
    exact or_ok _ [x, y, z] 3 (by simp) _ (li_whole h (Nat.zero_le _))
  clear hs hx hy hz hR hc
  go_enter Try.func31, Try.ntmps31
  go_wp2_with fail
  refine wp_region_held_drew (S := fun w' => Blk w.heap.size a.arr 42 w' ∧ Blk (w.heap.size + 1) b.arr 42 w') (by kernel_rfl) ⟨b1, b2⟩ (fun hHeld => ?_)
  refine tkQ 0 hHeld ?_
  try simp only [yy]
  refine tkH 1 (v := ?v2) rfl (by kernel_rfl) (fun _ _ _ h => h) (Or.inl ⟨by rfl, ?hy2⟩) hHeld ?rest2
  case hy2 => (intro w hSw; have hc := hSw.1.cell 0 _ rfl; clear hSw; go_simp; try with_reducible rfl)
  try simp only [yy]
  refine tkQ 2 hHeld ?_
  try simp only [yy]
  refine tkH 3 (v := ?v4) rfl (by kernel_rfl) (fun _ _ _ h => h) (Or.inl ⟨by rfl, ?hy4⟩) hHeld ?rest4
  case hy4 => (intro w hSw; have hc := hSw.2.cell 0 _ rfl; clear hSw; go_simp; try with_reducible rfl)
  try simp only [yy]
  refine tkQ 5 hHeld ?_
  try simp only [yy]
  refine tkH 6 (v := ?v6) rfl (by kernel_rfl) (fun _ _ _ h => h) (Or.inl ⟨by rfl, ?hy6⟩) hHeld ?rest6
  case hy6 => (intro w hSw; have hc := hSw.1.cell 1 _ rfl; clear hSw; go_simp; try with_reducible rfl)
  try simp only [yy]
  refine tkQ 7 hHeld ?_
  try simp only [yy]
  refine tkH 8 (v := ?v8) rfl (by kernel_rfl) (fun _ _ _ h => h) (Or.inl ⟨by rfl, ?hy8⟩) hHeld ?rest8
  case hy8 => (intro w hSw; have hc := hSw.2.cell 1 _ rfl; clear hSw; go_simp; try with_reducible rfl)
  try simp only [yy]
  refine tkQ 10 hHeld ?_
  try simp only [yy]
  refine tkH 11 (v := ?v10) rfl (by kernel_rfl) (fun _ _ _ h => h) (Or.inl ⟨by rfl, ?hy10⟩) hHeld ?rest10
  case hy10 => (intro w hSw; have hc := hSw.1.cell 2 _ rfl; clear hSw; go_simp; try with_reducible rfl)
  try simp only [yy]
  refine tkQ 12 hHeld ?_
  try simp only [yy]
  refine tkH 13 (v := ?v12) rfl (by kernel_rfl) (fun _ _ _ h => h) (Or.inl ⟨by rfl, ?hy12⟩) hHeld ?rest12
  case hy12 => (intro w hSw; have hc := hSw.2.cell 2 _ rfl; clear hSw; go_simp; try with_reducible rfl)
  try simp only [yy]
  refine rd1 4 (fun K hK => ?_)
  go_simp
  go_wp2_with (refine (p0 _).mono ?_; rintro r w' ⟨rfl, rfl⟩)
  refine hK.out _ _ hHeld (fun hHeld => ?_)
  clear hK K
  refine rd1 9 (fun K hK => ?_)
  go_simp
  go_wp2_with (refine (p1 _).mono ?_; rintro r w' ⟨rfl, rfl⟩)
  refine hK.out _ _ hHeld (fun hHeld => ?_)
  clear hK K
  refine rd1 14 (fun K hK => ?_)
  go_simp
  go_wp2_with (refine (p2 _).mono ?_; rintro r w' ⟨rfl, rfl⟩)
  refine hK.out _ _ hHeld (fun hHeld => ?_)
  clear hK K
  refine rd1 15 (fun K hK => ?_)
  rw [if_pos (by rfl)]
  refine wp_ints3 _ _ _ rfl x y z rfl rfl rfl ?_
  have hb : Blk W.heap.size (flat iv [x, y, z]).toArray 3 (W.drew.alloc (.cells (flat iv [x, y, z]).toArray 3)) := blk_new W.drew _ _
  have ho := or3_ok hb
  clear hb
  refine hK.out _ _ ⟨hHeld.1.alloc _, hHeld.2.alloc _⟩ (fun hHeld => ?_)
  clear hK K
  try simp only [yy]
  refine rd1 16 (fun K hK => ?_)
  go_simp
  go_wp2_with (refine ho.mono ?_; rintro r w' ⟨rfl, rfl⟩)
  refine hK.out _ _ hHeld (fun hHeld => ?_)
  clear hK K
  refine tkH 17 (v := ?v13) rfl (by kernel_rfl) (fun _ _ _ h => h) (Or.inl ⟨by rfl, ?hy13⟩) hHeld ?rest13
  case hy13 => (intro w hSw; have hc := True.intro; clear hSw; go_simp; try with_reducible rfl)
  try simp only [yy]
  refine tkQ 18 hHeld ?_
  try simp only [yy]
  refine wpAnyH_done (by kernel_rfl) ?_ _
  clear hHeld b1 b2 hW
  go_wp2_with fail
  go_ret
  refine ⟨rfl, ?_⟩
  exact hB.drew.alloc (Nat.le_trans hB.size (Nat.le_refl _)) _

end Go.Proofs.Ytmnpbjaofemelaa
