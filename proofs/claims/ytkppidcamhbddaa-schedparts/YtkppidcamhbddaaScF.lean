/-
  The calls whose answers the document fixes: they answer so.
  No condition.
-/
import Derived.Test.YtkppidcamhbddaaScR
import Derived.Test.YtkppidcamhbddaaScC
import Derived.Test.YtkppidcamhbddaaScS
namespace Go.Proofs.Ytkppidcamhbddaa
set_option maxRecDepth 10000
set_option linter.unusedSimpArgs false
open Go.RowKit Go.Sort
set_option linter.unusedVariables false

theorem bsU4 (w : World) : (Instr.buildSlice 31 4 #[(0, .int .u64 1), (1, .int .u64 1), (2, .int .u64 1), (3, .int .u64 2)]).run Try.prog w = .ok (.slice (some ⟨w.heap.size, 0, none⟩) 4 4) (w.alloc (.cells (flat encU [1, 1, 1, 2]).toArray 23)) := by kernel_rfl
theorem bsU2 (w : World) : (Instr.buildSlice 31 2 #[(0, .int .u64 1), (1, .int .u64 2)]).run Try.prog w = .ok (.slice (some ⟨w.heap.size, 0, none⟩) 2 2) (w.alloc (.cells (flat encU [1, 2]).toArray 23)) := by kernel_rfl
theorem box_U4 {ops : Array Oper} {rest : List Oper} {op : Oper} {a : Act} {w : World} {Q : Exit → Act → World → Prop} (hgd : op.guard = none) (ho : op.op = .buildSlice 31 4 #[(0, .const (.int .u64 1)), (1, .const (.int .u64 1)), (2, .const (.int .u64 1)), (3, .const (.int .u64 2))])
    (h : ∀ W, Li encU 0 (some ⟨w.heap.size, 0, none⟩) [1, 1, 1, 2] W → Below w.heap.size w W → wpList Try.prog ops Q rest (a.put op.dst (.slice (some ⟨w.heap.size, 0, none⟩) 4 4)) W) : wpList Try.prog ops Q (op :: rest) a w :=
  wpList_plain hgd fun _ hK => by
    have hk := hK _ _ (h _ (li_whole (f := encU) (blk_new w _ 23) (Nat.zero_le _)) (below_box w (.cells (flat encU [1, 1, 1, 2]).toArray 23)))
    have e1 : ∀ v, a.eval (.const v) = v := fun _ => rfl
    unfold Oper.wp execOp
    simp only [ho, List.map_toArray, List.map_cons, List.map_nil, e1, Sem.run_bind, Sem.run_pure, bsU4, Result.andThen_ok]
    exact hk
theorem wp_U2 {op : Oper} {a : Act} {w : World} {K : Act → World → Prop} {Q : Exit → Act → World → Prop} (ho : op.op = .buildSlice 31 2 #[(0, .const (.int .u64 1)), (1, .const (.int .u64 2))])
    (h : ∀ g W, Li encU 0 (some ⟨g, 0, none⟩) [1, 2] W → Below w.heap.size w W → K (a.put op.dst (.slice (some ⟨g, 0, none⟩) 2 2)) W) : op.wp Try.prog a w K Q := by
  have hk := h _ _ (li_whole (f := encU) (blk_new w _ 23) (Nat.zero_le _)) (below_box w (.cells (flat encU [1, 2]).toArray 23))
  have e1 : ∀ v, a.eval (.const v) = v := fun _ => rfl
  unfold Oper.wp execOp
  simp only [ho, List.map_toArray, List.map_cons, List.map_nil, e1, Sem.run_bind, Sem.run_pure, bsU2, Result.andThen_ok]
  exact hk
theorem sc_some : someL [1, 1, 1, 2] = [(En.mk 1 0 0 1 0 ⟨#[]⟩), (En.mk 1 0 0 1 1 ⟨#[]⟩), (En.mk 1 0 0 1 2 ⟨#[]⟩), (En.mk 1 0 0 2 3 ⟨#[]⟩)] := by kernel_rfl
theorem sc_fill : fillS (manyS 2) [(En.mk 1 0 0 1 0 ⟨#[]⟩), (En.mk 1 0 0 1 1 ⟨#[]⟩), (En.mk 1 0 0 1 2 ⟨#[]⟩), (En.mk 1 0 0 2 3 ⟨#[]⟩)] 0 = ([(En.mk 1 0 0 1 0 ⟨#[]⟩), (En.mk 1 0 0 2 3 ⟨#[]⟩)], [(En.mk 1 0 0 1 1 ⟨#[]⟩), (En.mk 1 0 0 1 2 ⟨#[]⟩)], 2) := by kernel_rfl
theorem sc_turn : turnS [(En.mk 1 0 0 1 1 ⟨#[]⟩), (En.mk 1 0 0 1 2 ⟨#[]⟩)] 2 = some 0 := by kernel_rfl
theorem sc_sess : sessI [(En.mk 1 0 0 1 0 ⟨#[]⟩), (En.mk 1 0 0 1 1 ⟨#[]⟩), (En.mk 1 0 0 1 2 ⟨#[]⟩), (En.mk 1 0 0 2 3 ⟨#[]⟩)] = [1, 2] := by kernel_rfl

set_option maxHeartbeats 8000000 in
theorem fixed_ok (w : World) : Calls Try.prog 7 #[] w fun e w' => e = .returned (.bool true) ∧ Below w.heap.size w w' := by
  have p1 : ∀ a c v, Li encU 0 a [1, 1, 1, 2] v → Calls Try.prog 17 #[.slice a 4 c] v fun e w' => (∃ a c, e = .returned (.slice a 4 c) ∧ Li En.vals 0 a [(En.mk 1 0 0 1 0 ⟨#[]⟩), (En.mk 1 0 0 1 1 ⟨#[]⟩), (En.mk 1 0 0 1 2 ⟨#[]⟩), (En.mk 1 0 0 2 3 ⟨#[]⟩)] w') ∧ Below v.heap.size v w' := fun a c v hl => by
    have h := some_ok [1, 1, 1, 2] a c (by decide) (by decide) v hl
    rw [sc_some] at h
    refine h.mono ?_
    rintro e w' ⟨⟨a, c, h1, h2⟩, h3⟩
    exact ⟨⟨a, c, h1, h2.li.mono (Nat.zero_le _)⟩, h3⟩
  have p2 : ∀ a c v, Li En.vals 0 a [(En.mk 1 0 0 1 0 ⟨#[]⟩), (En.mk 1 0 0 1 1 ⟨#[]⟩), (En.mk 1 0 0 1 2 ⟨#[]⟩), (En.mk 1 0 0 2 3 ⟨#[]⟩)] v → Calls Try.prog 10 #[.slice a 4 c, .int .u64 0, .int .i64 2] v fun e w' => (∃ aT cT aR cR, e = .returned (.tuple #[.slice aT 2 cT, .slice aR 2 cR, .int .u64 2]) ∧ Li En.vals 0 aT [(En.mk 1 0 0 1 0 ⟨#[]⟩), (En.mk 1 0 0 2 3 ⟨#[]⟩)] w' ∧ Li En.vals 0 aR [(En.mk 1 0 0 1 1 ⟨#[]⟩), (En.mk 1 0 0 1 2 ⟨#[]⟩)] w') ∧ Below v.heap.size v w' := fun a c v hl => by
    have h := fill_ok [(En.mk 1 0 0 1 0 ⟨#[]⟩), (En.mk 1 0 0 1 1 ⟨#[]⟩), (En.mk 1 0 0 1 2 ⟨#[]⟩), (En.mk 1 0 0 2 3 ⟨#[]⟩)] 0 2 (by intro x hx; simp at hx; rcases hx with rfl | rfl | rfl | rfl <;> decide) (by decide) (by decide) a c (by decide) v hl
    rw [sc_fill] at h
    exact h
  have p3 : ∀ a c v, Li En.vals 0 a [(En.mk 1 0 0 1 1 ⟨#[]⟩), (En.mk 1 0 0 1 2 ⟨#[]⟩)] v → Calls Try.prog 8 #[.slice a 2 c, .int .u64 2] v fun e w' => e = .returned (.tuple #[.int .i64 0, .bool true]) ∧ Below v.heap.size v w' := fun a c v hl => by
    have h := turn_ok [(En.mk 1 0 0 1 1 ⟨#[]⟩), (En.mk 1 0 0 1 2 ⟨#[]⟩)] 2 (by intro x hx; simp at hx; rcases hx with rfl | rfl <;> decide) (by decide) a c (by decide) v hl
    rw [sc_turn] at h
    exact h
  have p4 : ∀ v, Calls Try.prog 8 #[.slice none 0 0, .int .u64 0] v fun e w' => e = .returned (.tuple #[.int .i64 0, .bool false]) ∧ Below v.heap.size v w' := fun v => by
    have h := turn_ok [] 0 (by intro x hx; cases hx) (by decide) none 0 (by decide) v (.inl rfl)
    exact h
  have p5 : ∀ a c v, Li En.vals 0 a [(En.mk 1 0 0 1 0 ⟨#[]⟩), (En.mk 1 0 0 1 1 ⟨#[]⟩), (En.mk 1 0 0 1 2 ⟨#[]⟩), (En.mk 1 0 0 2 3 ⟨#[]⟩)] v → Calls Try.prog 14 #[.slice a 4 c] v fun e w' => (∃ a c, e = .returned (.slice a 2 c) ∧ Li encU 0 a [1, 2] w') ∧ Below v.heap.size v w' := fun a c v hl => by
    have h := sess_ok [(En.mk 1 0 0 1 0 ⟨#[]⟩), (En.mk 1 0 0 1 1 ⟨#[]⟩), (En.mk 1 0 0 1 2 ⟨#[]⟩), (En.mk 1 0 0 2 3 ⟨#[]⟩)] a c (by decide) v hl
    rw [sc_sess] at h
    exact h
  have p6 : ∀ a b c d v, Li encU 0 a [1, 2] v → Li encU 0 b [1, 2] v → Calls Try.prog 13 #[.slice a 2 c, .slice b 2 d] v fun e w' => e = .returned (.bool true) ∧ Below v.heap.size v w' := fun a b c d v h1 h2 => rsame_ok [1, 2] a b c d (by decide) v h1 h2
  generalize (En.mk 1 0 0 1 0 ⟨#[]⟩) = x0 at p1 p2 p3 p5
  generalize (En.mk 1 0 0 1 1 ⟨#[]⟩) = x1 at p1 p2 p3 p5
  generalize (En.mk 1 0 0 1 2 ⟨#[]⟩) = x2 at p1 p2 p3 p5
  generalize (En.mk 1 0 0 2 3 ⟨#[]⟩) = x3 at p1 p2 p3 p5
  go_enter Try.func7, Try.ntmps7
  go_wp2_with (refine box_U4 rfl rfl ?_; intro W0 hU hB)
  refine (p1 _ _ _ hU).mono ?_
  rintro e w1 ⟨⟨aW, cW, rfl, hW⟩, hb⟩
  replace hB := below_next hB hb
  clear hb hU p1
  go_wp2_with fail
  refine (p2 _ _ _ hW).mono ?_
  rintro e w2 ⟨⟨aA, cA, aB, cB, rfl, hA, hR⟩, hb⟩
  replace hB := below_next hB hb
  replace hW := hW.below hb
  clear hb p2
  go_wp2_with fail
  refine (p3 _ _ _ hR).mono ?_
  rintro e w3 ⟨rfl, hb⟩
  replace hB := below_next hB hb
  replace hW := hW.below hb
  replace hA := hA.below hb
  clear hb p3 hR
  go_wp2_with fail
  refine (p4 _).mono ?_
  rintro e w5 ⟨rfl, hb⟩
  replace hB := below_next hB hb
  replace hW := hW.below hb
  replace hA := hA.below hb
  clear hb p4
  obtain ⟨bA, oA, rfl, _, _, _⟩ := hA.at En.vals_length 0 x0 rfl
  obtain ⟨bW, oW, rfl, _, _, _⟩ := hW.at En.vals_length 0 x0 rfl
  have hE0 : ∀ v, (binOp .eql 36 (.agg x0.vals.toArray) (.agg x0.vals.toArray)).run Try.prog v = .ok (.bool true) v := eqlEn x0 x0 true (En.same_self _)
  have hE3 : ∀ v, (binOp .eql 36 (.agg x3.vals.toArray) (.agg x3.vals.toArray)).run Try.prog v = .ok (.bool true) v := eqlEn x3 x3 true (En.same_self _)
  go_upto_region 5 with fail
  try simp only [Act.put, List.setIfInBounds_toArray, List.set_cons_zero, List.set_cons_succ]
  refine wp_region_held_drew (S := fun v => Below w5.heap.size w5 v) (by kernel_rfl) ((Below.refl _ _).drew) (fun hHeld => ?_)
  refine tkQ 0 hHeld ?_
  try simp only [yy]
  refine tkQ 1 hHeld ?_
  try simp only [yy]
  refine tkQ 2 hHeld ?_
  try simp only [yy]
  refine tkQ 3 hHeld ?_
  try simp only [yy]
  refine tkQ 4 hHeld ?_
  try simp only [yy]
  refine tkQ 5 hHeld ?_
  try simp only [yy]
  refine' tkH 6 (v := _) rfl (by kernel_rfl) (fun _ _ _ h => h) (yieldsIf_load_mid (by rfl) _ _ rfl bA (oA + 0 * 6) rfl x0.vals _ ?hS7 Try.underlying36 rfl sizeEn) hHeld ?rest7
  case hS7 => exact fun w h => ((hA.below h).rng En.vals_length 0 x0 rfl)
  try simp only [yy]
  refine tkQ 7 hHeld ?_
  try simp only [yy]
  refine tkQ 8 hHeld ?_
  try simp only [yy]
  refine' tkH 9 (v := _) rfl (by kernel_rfl) (fun _ _ _ h => h) (yieldsIf_load_mid (by rfl) _ _ rfl bW (oW + 0 * 6) rfl x0.vals _ ?hS10 Try.underlying36 rfl sizeEn) hHeld ?rest10
  case hS10 => exact fun w h => ((hW.below h).rng En.vals_length 0 x0 rfl)
  try simp only [yy]
  refine tkQ 10 hHeld ?_
  try simp only [yy]
  refine tkQ 11 hHeld ?_
  try simp only [yy]
  refine tkQ 12 hHeld ?_
  try simp only [yy]
  refine tkQ 13 hHeld ?_
  try simp only [yy]
  refine tkQ 14 hHeld ?_
  try simp only [yy]
  refine' tkH 15 (v := _) rfl (by kernel_rfl) (fun _ _ _ h => h) (yieldsIf_load_mid (by rfl) _ _ rfl bA (oA + 1 * 6) rfl x3.vals _ ?hS16 Try.underlying36 rfl sizeEn) hHeld ?rest16
  case hS16 => exact fun w h => ((hA.below h).rng En.vals_length 1 x3 rfl)
  try simp only [yy]
  refine tkQ 16 hHeld ?_
  try simp only [yy]
  refine tkQ 17 hHeld ?_
  try simp only [yy]
  refine' tkH 18 (v := _) rfl (by kernel_rfl) (fun _ _ _ h => h) (yieldsIf_load_mid (by rfl) _ _ rfl bW (oW + 3 * 6) rfl x3.vals _ ?hS19 Try.underlying36 rfl sizeEn) hHeld ?rest19
  case hS19 => exact fun w h => ((hW.below h).rng En.vals_length 3 x3 rfl)
  try simp only [yy]
  refine tkQ 19 hHeld ?_
  try simp only [yy]
  refine tkQ 20 hHeld ?_
  try simp only [yy]
  refine tkQ 21 hHeld ?_
  try simp only [yy]
  refine tkQ 22 hHeld ?_
  try simp only [yy]
  refine tkQ 23 hHeld ?_
  try simp only [yy]
  refine tkQ 24 hHeld ?_
  try simp only [yy]
  refine tkQ 25 hHeld ?_
  try simp only [yy]
  refine tkQ 26 hHeld ?_
  try simp only [yy]
  refine tkQ 27 hHeld ?_
  try simp only [yy]
  refine tkQ 28 hHeld ?_
  try simp only [yy]
  refine tkQ 29 hHeld ?_
  try simp only [yy]
  refine tkQ 30 hHeld ?_
  try simp only [yy]
  refine tkQ 31 hHeld ?_
  try simp only [yy]
  refine tkQ 32 hHeld ?_
  try simp only [yy]
  refine tkQ 33 hHeld ?_
  try simp only [yy]
  refine tkQ 34 hHeld ?_
  try simp only [yy]
  refine tkQ 35 hHeld ?_
  try simp only [yy]
  refine tkQ 36 hHeld ?_
  try simp only [yy]
  refine tkQ 37 hHeld ?_
  try simp only [yy]
  refine tkQ 38 hHeld ?_
  try simp only [yy]
  refine tkQ 39 hHeld ?_
  try simp only [yy]
  refine tkQ 40 hHeld ?_
  try simp only [yy]
  refine tkQ 41 hHeld ?_
  try simp only [yy]
  refine tkQ 42 hHeld ?_
  try simp only [yy]
  refine wpAnyH_ready (rs := [43, 44]) (by kernel_rfl) (by simp) ?_
  refine AllReadyH.cons rfl (fun K hK => ?_) (AllReadyH.cons rfl (fun K hK => ?_) (AllReadyH.nil))
  · go_simp
    go_wp2_with (refine (p5 _ cW _ (hW.below hHeld)).mono ?_; rintro r u1 ⟨⟨aS, cS, rfl, hS⟩, hb⟩)
    refine hK.out _ _ (below_next hHeld hb) (fun hHeld => ?_)
    clear hK K hb
    refine rd1 44 (fun K hK => ?_)
    rw [if_pos (by rfl)]
    refine wp_U2 rfl ?_
    intro gX u2 hX hb
    replace hS := hS.below hb
    refine hK.out _ _ (below_next hHeld hb) (fun hHeld => ?_)
    clear hK K hb
    try simp only [yy]
    refine rd1 45 (fun K hK => ?_)
    go_simp
    go_wp2_with (refine (p6 _ _ _ _ _ hS hX).mono ?_; rintro r u3 ⟨rfl, hb⟩)
    refine hK.out _ _ (below_next hHeld hb) (fun hHeld => ?_)
    clear hK K hb
    refine tkQ 46 hHeld ?_
    try simp only [yy]
    refine tkQ 47 hHeld ?_
    try simp only [yy]
    refine wpAnyH_done (by kernel_rfl) ?_ _
    have hBB := hB.trans (hHeld.mono hB.size)
    go_wp2_with fail
    go_ret
    exact ⟨rfl, hBB⟩
  · rw [if_pos (by rfl)]
    refine wp_U2 rfl ?_
    intro gX u4 hX hb
    refine hK.out _ _ (below_next hHeld hb) (fun hHeld => ?_)
    clear hK K hb
    try simp only [yy]
    refine rd1 43 (fun K hK => ?_)
    go_simp
    go_wp2_with (refine (p5 _ cW _ (hW.below hHeld)).mono ?_; rintro r u5 ⟨⟨aS, cS, rfl, hS⟩, hb⟩)
    replace hX := hX.below hb
    refine hK.out _ _ (below_next hHeld hb) (fun hHeld => ?_)
    clear hK K hb
    refine rd1 45 (fun K hK => ?_)
    go_simp
    go_wp2_with (refine (p6 _ _ _ _ _ hS hX).mono ?_; rintro r u6 ⟨rfl, hb⟩)
    refine hK.out _ _ (below_next hHeld hb) (fun hHeld => ?_)
    clear hK K hb
    refine tkQ 46 hHeld ?_
    try simp only [yy]
    refine tkQ 47 hHeld ?_
    try simp only [yy]
    refine wpAnyH_done (by kernel_rfl) ?_ _
    have hBB := hB.trans (hHeld.mono hB.size)
    go_wp2_with fail
    go_ret
    exact ⟨rfl, hBB⟩

end Go.Proofs.Ytkppidcamhbddaa
