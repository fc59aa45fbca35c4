/-
  The calls whose answers the document fixes: they answer so.
  No condition.
-/
import Derived.Test.YtmnpbjaofemelaaQuC
import Derived.Test.YtmnpbjaofemelaaQuD
import Derived.Test.YtmnpbjaofemelaaHm
namespace Go.Proofs.Ytmnpbjaofemelaa
set_option maxRecDepth 10000
set_option linter.unusedSimpArgs false
open Go.RowKit Go.Sort
set_option linter.unusedVariables false

def eA : En := ⟨1, 3, 0, 0, 0, ⟨#[97]⟩⟩
def eB : En := ⟨1, 2, 0, 0, 0, ⟨#[98]⟩⟩
def wA : Wt := ⟨⟨1, 0, 1⟩, eA⟩
def wB : Wt := ⟨⟨2, 0, 0⟩, eB⟩
def m11 : Nat → Nat := fun i => if i < 2 then 1 else 0
def c22 : Nat → Nat := fun i => if i < 2 then 2 else 0
theorem qf_one : addQ 0 2 0 [eB] [] = [wB] := by kernel_rfl
theorem qf_two : addQ 0 1 0 [En.zero, eA] [wB] = [wA, wB] := by kernel_rfl
theorem qf_r2 : rdyQ c22 m11 true [wA, wB] = [wA, wB] ∧ rstQ c22 m11 true [wA, wB] = [] := ⟨by kernel_rfl, by kernel_rfl⟩
theorem qf_r1 : rdyQ m11 m11 true [wA, wB] = [] ∧ rstQ m11 m11 true [wA, wB] = [wA, wB] := ⟨by kernel_rfl, by kernel_rfl⟩
theorem qf_may : mayW [wA, wB] = true := by kernel_rfl
theorem fitA : wA.fit := ⟨by decide, by decide, by decide⟩
theorem fitB : wB.fit := ⟨by decide, by decide, by decide⟩
theorem fitAB : ∀ x ∈ [wA, wB], x.fit := by
  intro x hx
  simp at hx
  rcases hx with rfl | rfl
  · exact fitA
  · exact fitB
theorem mbc_all (m : Nat → Nat) : ((mbc m).extract 0 (0 + (row8 m).length)).toList = row8 m := by kernel_rfl
theorem bsEn2 (a b : En) (w : World) : (Instr.buildSlice 24 2 #[(0, .agg a.arr), (1, .agg b.arr)]).run Try.prog w = .ok (.slice (some ⟨w.heap.size, 0, none⟩) 2 2) (w.alloc (.cells (flat En.vals [a, b]).toArray 45)) := by kernel_rfl
theorem box_En1 {ops : Array Oper} {rest : List Oper} {op : Oper} {a : Act} {w : World} {Q : Exit → Act → World → Prop} (hgd : op.guard = none) (x : Operand) (ho : op.op = .buildSlice 24 1 #[(0, x)]) (e : En) (hx : a.eval x = .agg e.arr)
    (h : ∀ W, Li En.vals 0 (some ⟨w.heap.size, 0, none⟩) [e] W → Below w.heap.size w W → wpList Try.prog ops Q rest (a.put op.dst (.slice (some ⟨w.heap.size, 0, none⟩) 1 1)) W) : wpList Try.prog ops Q (op :: rest) a w :=
  wpList_plain hgd fun _ hK => by
    have hk := hK _ _ (h _ (li_box (f := En.vals) w e 45 _ (Nat.zero_le _)) (below_box w _))
    unfold Oper.wp execOp
    simp only [ho, List.map_toArray, List.map_cons, List.map_nil, hx, Sem.run_bind, Sem.run_pure, bsEn, Result.andThen_ok]
    exact hk
theorem box_En2 {ops : Array Oper} {rest : List Oper} {op : Oper} {a : Act} {w : World} {Q : Exit → Act → World → Prop} (hgd : op.guard = none) (x y : Operand) (ho : op.op = .buildSlice 24 2 #[(0, x), (1, y)]) (e e' : En) (hx : a.eval x = .agg e.arr) (hy : a.eval y = .agg e'.arr)
    (h : ∀ W, Li En.vals 0 (some ⟨w.heap.size, 0, none⟩) [e, e'] W → Below w.heap.size w W → wpList Try.prog ops Q rest (a.put op.dst (.slice (some ⟨w.heap.size, 0, none⟩) 2 2)) W) : wpList Try.prog ops Q (op :: rest) a w :=
  wpList_plain hgd fun _ hK => by
    have hk := hK _ _ (h _ (li_whole (f := En.vals) (blk_new w _ 45) (Nat.zero_le _)) (below_box w _))
    unfold Oper.wp execOp
    simp only [ho, List.map_toArray, List.map_cons, List.map_nil, hx, hy, Sem.run_bind, Sem.run_pure, bsEn2, Result.andThen_ok]
    exact hk

set_option maxHeartbeats 4000000 in
theorem two_ok (w : World) : Calls Try.prog 22 #[] w fun e w' => (∃ a c, e = .returned (.slice a 2 c) ∧ 2 ≤ c ∧ Li Wt.vals 0 a [wA, wB] w') ∧ Below w.heap.size w w' := by
  have p1 : ∀ a c v, Li En.vals 0 a [eB] v → Calls Try.prog 12 #[.slice none 0 0, .int .i64 0, .int .u32 2, .slice a 1 c] v fun e w' => (∃ a c, e = .returned (.slice a 1 c) ∧ 1 ≤ c ∧ Li Wt.vals 0 a [wB] w') ∧ Below v.heap.size v w' := fun a c v hl => by
    have h := add_ok [] (fun _ h => by cases h) [eB] 0 2 (by decide) (by decide) none a 0 c (by decide) (by decide) v (.inl rfl) hl
    rw [qf_one] at h
    refine h.mono ?_
    rintro e w' ⟨⟨a, c, h1, h2⟩, h3⟩
    exact ⟨⟨a, c, h1, h2.cap, h2.li.mono (Nat.zero_le _)⟩, h3⟩
  have p2 : ∀ a b c d v, 1 ≤ c → Li Wt.vals 0 a [wB] v → Li En.vals 0 b [En.zero, eA] v → Calls Try.prog 12 #[.slice a 1 c, .int .i64 0, .int .u32 1, .slice b 2 d] v fun e w' => (∃ a c, e = .returned (.slice a 2 c) ∧ 2 ≤ c ∧ Li Wt.vals 0 a [wA, wB] w') ∧ Below v.heap.size v w' := fun a b c d v hc hl hl2 => by
    have h := add_ok [wB] (fun x h => by simp at h; rw [h]; exact fitB) [En.zero, eA] 0 1 (by decide) (by decide) a b c d (by decide) hc v hl hl2
    rw [qf_two] at h
    refine h.mono ?_
    rintro e w' ⟨⟨a, c, h1, h2⟩, h3⟩
    exact ⟨⟨a, c, h1, h2.cap, h2.li.mono (Nat.zero_le _)⟩, h3⟩
  go_enter Try.func22, Try.ntmps22
  go_wp2_with (first | (refine build_as rfl 45 #[(0, .const (.int .i64 1)), (1, .const (.int .i64 2)), (5, .const (.string ⟨#[98]⟩))] rfl (C := eB.arr) (by kernel_rfl) ?_) | (refine box_En1 rfl _ rfl eB rfl ?_; intro W1 hl1 hB))
  refine (p1 _ _ _ hl1).mono ?_
  rintro e w2 ⟨⟨a, c, rfl, hc, hL⟩, hb⟩
  replace hB := below_next hB hb
  clear hb p1 hl1
  go_wp2_with (first | refine build_zero builtEn rfl rfl ?_ | (refine build_as rfl 45 #[(0, .const (.int .i64 1)), (1, .const (.int .i64 3)), (5, .const (.string ⟨#[97]⟩))] rfl (C := eA.arr) (by kernel_rfl) ?_) | (refine box_En2 rfl _ _ rfl En.zero eA rfl rfl ?_; intro W3 hl3 hb3; have hL3 := hL.below hb3; have hB3 := below_next hB hb3))
  refine (p2 _ _ _ _ _ hc hL3 hl3).mono ?_
  rintro e w4 ⟨⟨a', c', rfl, hc', hL'⟩, hb⟩
  have hB4 := below_next hB3 hb
  clear hb p2 hl3 hL3 hL
  go_wp2_with fail
  go_ret
  exact ⟨⟨a', c', rfl, hc', hL'⟩, hB4⟩

set_option maxHeartbeats 8000000 in
theorem fixed_ok (w : World) : Calls Try.prog 8 #[] w fun e w' => e = .returned (.bool true) ∧ Below w.heap.size w w' := by
  have pT := two_ok
  have pR2 : ∀ a c v, Li Wt.vals 0 a [wA, wB] v → Calls Try.prog 9 #[.slice a 2 c, .agg (mbc c22), .agg (mbc m11)] v fun e w' => (∃ g c a' c', e = .returned (.tuple #[.slice (some ⟨g, 0, none⟩) 2 c, .slice a' 0 c']) ∧ 2 ≤ c ∧ Li Wt.vals 0 (some ⟨g, 0, none⟩) [wA, wB] w') ∧ Below v.heap.size v w' := fun a c v hl => by
    have h := ready_ok c22 m11 [wA, wB] fitAB a c (by decide) v hl
    rw [qf_r2.1, qf_r2.2] at h
    refine h.mono ?_
    rintro e w' ⟨⟨a, c, a', c', h1, h2, h4, _⟩, h3⟩
    rcases h2 with ⟨_, _, h⟩ | ⟨g, rfl, hBg, h⟩
    · cases h
    · exact ⟨⟨g, c, a', c', h1, h.len.1, h.li (Nat.zero_le _)⟩, h3⟩
  have pR1 : ∀ a c v, Li Wt.vals 0 a [wA, wB] v → Calls Try.prog 9 #[.slice a 2 c, .agg (mbc m11), .agg (mbc m11)] v fun e w' => (∃ a c a' c', e = .returned (.tuple #[.slice a 0 c, .slice a' 2 c']) ∧ Li Wt.vals 0 a' [wA, wB] w') ∧ Below v.heap.size v w' := fun a c v hl => by
    have h := ready_ok m11 m11 [wA, wB] fitAB a c (by decide) v hl
    rw [qf_r1.1, qf_r1.2] at h
    refine h.mono ?_
    rintro e w' ⟨⟨a, c, a', c', h1, h2, h4, _⟩, h3⟩
    exact ⟨⟨a, c, a', c', h1, h4.li.mono (Nat.zero_le _)⟩, h3⟩
  have pM : ∀ a c v, Li Wt.vals 0 a [wA, wB] v → Calls Try.prog 15 #[.slice a 2 c] v fun e w' => e = .returned (.bool true) ∧ Below v.heap.size v w' := fun a c v hl => by
    have h := qmay_ok [wA, wB] a c (by decide) v hl
    rw [qf_may] at h
    exact h
  have pF : ∀ a c v, Li Wt.vals 0 a [wA, wB] v → Calls Try.prog 14 #[.slice a 2 c] v fun e w' => (∃ a c, e = .returned (.slice a 2 c)) ∧ Below v.heap.size v w' := fun a c v hl => by
    have h := flush_ok [wA, wB] a c (by decide) v hl
    refine h.mono ?_
    rintro e w' ⟨⟨a, c, h1, _⟩, h3⟩
    exact ⟨⟨a, c, h1⟩, h3⟩
  have hcA8 : wA.vals[8]? = some (.string ⟨#[97]⟩) := rfl
  have hcA2 : wA.vals[2]? = some (.int .i64 1) := rfl
  generalize wA = xA at pT pR2 pR1 pM pF hcA8 hcA2
  generalize wB = xB at pT pR2 pR1 pM pF
  go_enter Try.func8, Try.ntmps8
  have bm := blk_new w (mbc m11) 29
  have hB := below_box w (.cells (mbc m11) 29)
  go_upto_region 2 with (go_big_may; first | refine build_as rfl 29 #[(0, .const (.int .u32 1)), (1, .const (.int .u32 1))] rfl (C := mbc m11) (by kernel_rfl) ?_ | refine alloc_zero zeroMb rfl rfl ?_ | refine store_new rfl 29 _ _ rfl (cells := mbc m11) rfl rfl sizeMb rfl (mbc_one _) ?_)
  try simp only [Act.put, List.setIfInBounds_toArray, List.set_cons_zero, List.set_cons_succ]
  generalize w.alloc (Obj.cells (mbc m11) 29) = W at bm hB ⊢
  refine wp_region_held_drew (S := fun v => Below W.heap.size W v) (by kernel_rfl) ((Below.refl _ _).drew) (fun hHeld => ?_)
  refine tkH 1 (v := .agg (mbc c22)) rfl (by kernel_rfl) (fun _ _ _ h => h) (yields_build (by rfl) 28 #[(0, .const (.int .u32 2)), (1, .const (.int .u32 2))] rfl (by kernel_rfl)) hHeld ?rest8
  try simp only [yy]
  refine' tkH 2 (v := _) rfl (by kernel_rfl) (fun _ _ _ h => h) (yieldsIf_load_mid (by rfl) _ _ rfl w.heap.size 0 rfl (row8 m11) _ ?hS9 Try.underlying29 rfl sizeMb) hHeld ?rest9
  case hS9 => exact fun w h => ((bm.below h).range 0 (row8 m11) (mbc_all m11))
  try simp only [yy]
  refine rd1 0 (fun K hK => ?_)
  go_simp
  go_wp2_with (refine (pT _).mono ?_; rintro r u1 ⟨⟨a1, c1, rfl, hc1, hL1⟩, hb⟩)
  refine hK.out _ _ (below_next hHeld hb) (fun hHeld => ?_)
  clear hK K hb
  refine rd1 3 (fun K hK => ?_)
  go_simp
  go_wp2_with (refine (pR2 _ _ _ hL1).mono ?_; rintro r u2 ⟨⟨g2, c2, a3, c3, rfl, hc2, hL2⟩, hb⟩)
  refine hK.out _ _ (below_next hHeld hb) (fun hHeld => ?_)
  clear hK K hb hL1
  refine tkQ 4 hHeld ?_
  try simp only [yy]
  refine tkQ 5 hHeld ?_
  try simp only [yy]
  refine tkQ 6 hHeld ?_
  try simp only [yy]
  refine tkQ 7 hHeld ?_
  try simp only [yy]
  refine tkQ 8 hHeld ?_
  try simp only [yy]
  refine wpAnyH_done (by kernel_rfl) ?_ _
  have bm1 := bm.below hHeld
  have hB1 := below_next hB hHeld
  clear bm hB
  have bm := bm1
  clear bm1 hHeld
  obtain ⟨W1, hW1⟩ : ∃ W1, W1 = u2 := ⟨_, rfl⟩
  rw [← hW1] at bm hB1 hL2 ⊢
  clear hW1
  go_upto_region 3 with fail
  try simp only [Act.put, List.setIfInBounds_toArray, List.set_cons_zero, List.set_cons_succ]
  refine wp_region_held_drew (S := fun v => Below W1.heap.size W1 v) (by kernel_rfl) ((Below.refl _ _).drew) (fun hHeld => ?_)
  refine tkH 1 (v := .agg (mbc m11)) rfl (by kernel_rfl) (fun _ _ _ h => h) (yields_build (by rfl) 28 #[(0, .const (.int .u32 1)), (1, .const (.int .u32 1))] rfl (by kernel_rfl)) hHeld ?rest1
  try simp only [yy]
  refine' tkH 2 (v := _) rfl (by kernel_rfl) (fun _ _ _ h => h) (yieldsIf_load_mid (by rfl) _ _ rfl w.heap.size 0 rfl (row8 m11) _ ?hS2 Try.underlying29 rfl sizeMb) hHeld ?rest2
  case hS2 => exact fun w h => ((bm.below h).range 0 (row8 m11) (mbc_all m11))
  try simp only [yy]
  refine rd1 0 (fun K hK => ?_)
  go_simp
  go_wp2_with (refine (pT _).mono ?_; rintro r u1 ⟨⟨a1, c1, rfl, hc1, hL1⟩, hb⟩)
  refine hK.out _ _ (below_next hHeld hb) (fun hHeld => ?_)
  clear hK K hb
  refine rd1 3 (fun K hK => ?_)
  go_simp
  go_wp2_with (refine (pR1 _ _ _ hL1).mono ?_; rintro r u2 ⟨⟨a4, c4, a5, c5, rfl, hL5⟩, hb⟩)
  refine hK.out _ _ (below_next hHeld hb) (fun hHeld => ?_)
  clear hK K hb hL1
  refine tkQ 4 hHeld ?_
  try simp only [yy]
  refine tkQ 5 hHeld ?_
  try simp only [yy]
  refine tkQ 6 hHeld ?_
  try simp only [yy]
  refine tkQ 7 hHeld ?_
  try simp only [yy]
  refine tkQ 8 hHeld ?_
  try simp only [yy]
  refine wpAnyH_done (by kernel_rfl) ?_ _
  have hL2' := hL2.below hHeld
  have hB2 := below_next hB1 hHeld
  clear hHeld bm
  obtain ⟨b9, o9, e9, _, _, hr⟩ := hL2'.at Wt.vals_length 0 xA rfl
  cases e9
  have q8 := hr 8 _ hcA8
  have q2 := hr 2 _ hcA2
  simp only [Nat.zero_mul, Nat.zero_add] at q8 q2
  clear hr hL2' hL2
  go_wp2_with fail
  refine (pM _ _ _ hL5).mono ?_
  rintro e wM ⟨rfl, hb⟩
  have hB3 := below_next hB2 hb
  replace hL5 := hL5.below hb
  clear hb
  go_wp2_with fail
  refine (pF _ _ _ hL5).mono ?_
  rintro e wF ⟨⟨a6, c6, rfl⟩, hb⟩
  have hB4 := below_next hB3 hb
  clear hb
  go_wp2_with fail
  go_ret
  exact ⟨rfl, hB4⟩

end Go.Proofs.Ytmnpbjaofemelaa
