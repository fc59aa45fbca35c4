/-
  Two daemons that promised the same, come from the same configuration, and know the same of each other and of all, have the same target, which is not below either one's cut: the law GatherSame returns true for every input.
  No condition beyond the form's own.
-/
import Derived.Test.YtbmhfnallpcmpaaRows
import Derived.Test.YtbmhfnallpcmpaaGaX
import Derived.Test.YtbmhfnallpcmpaaGaE
import Derived.Test.YtbmhfnallpcmpaaGaN
import Derived.WalkKit
import Derived.ProofKit
import Derived.OpenShut
import Derived.ShutString
import Derived.SizedLaws
import Derived.ChangeOld
import Derived.Below
namespace Go.Proofs.Ytbmhfnallpcmpaa.gatherSame
open Go.Sort Go.ChangeShapes Go.WideShapes Go.ChangeAt Go.RowKit
open Go.ChangeMaps (open_string shut_string)
set_option linter.unusedVariables false
set_option maxRecDepth 10000

theorem own : ownKnob Try.prog.godebug = none := by kernel_rfl
theorem length_bytes (s : ByteArray) : s.data.toList.length = s.size := by rw [Array.length_toList]; rfl

theorem skip_not {P : Program} {ops : Array Oper} {rest : List Oper} {o : Oper} {a : Act} {w : World} {Q : Exit → Act → World → Prop} (hw : Region.wanted o (yielded ops a.tmps) = false) (h : wpList P ops Q rest (a.put o.dst undef) w) : wpList P ops Q (o :: rest) a w :=
  wpList_step fun _ hK => by rw [if_neg (by rw [hw]; simp)]; exact hK _ _ h

theorem yields_build {P : Program} {ops : Array Oper} {S : World → Prop} {op : Oper} {a : Act} (hw : Region.wanted op (yielded ops a.tmps) = true) (T : TypeId) (parts : Array (Nat × Operand)) (ho : op.op = .build T parts) {C : Array Value}
    (hz : P.built T (parts.map fun (i, x) => (i, a.eval x)).toList = some C) : YieldsIf P ops S op (.agg C) a :=
  .inl ⟨hw, fun w _ => by unfold execOp; simp only [ho, Sem.run_bind, run_build w T _ C hz, Result.andThen_ok]; rfl⟩

def Cut (w : World) (W : World) (c : Co) (k X : Nat → Nat) (pv ov : Value) (w' : World) : Prop := ∃ px py, pv = .pointer (some ⟨px, 0, none⟩) ∧ ov = .pointer (some ⟨py, 0, none⟩) ∧ Blk w.heap.size (coc c) 35 w' ∧ Blk (w.heap.size + 1) (mbc k) 29 w' ∧ Blk px (mbc X) 29 w' ∧ Blk py (mbc X) 29 w' ∧ Below W.heap.size W w'

set_option maxHeartbeats 16000000 in
theorem walk (c : Co) (kf : c.fit) (j : Int) (kj : (Lit.int .i64 j).wf = true) (k : Nat → Nat) (kk : ∀ i, k i < 4294967296) (w : World) : Calls Try.prog 6 #[.agg (coc c), .int .i64 j, .agg (mbc k)] w fun e w' => e = .returned (.bool true) ∧ Below w.heap.size w w' := by
  obtain ⟨a0, a1, hB⟩ := two_blk (T0 := 35) (T1 := 29) (C0 := coc c) (C1 := mbc k) (w := w) rfl
  clear kf kj kk
  go_enter Try.func6, Try.ntmps6
  go_upto_region 1 with fail
  generalize (w.alloc (Obj.cells (coc c) 35)).alloc (Obj.cells (mbc k) 29) = W at a0 a1 hB ⊢
  go_wp2_with fail
  refine (fixed_ok _).mono ?_
  rintro r w1 ⟨rfl, hb⟩
  replace a0 := a0.below hb
  replace a1 := a1.below hb
  replace hB := hB.trans (hb.mono hB.size)
  clear hb 
  have c0 := a0.cell 0 (.int .i64 c.self) rfl
  obtain ⟨sI, hcs⟩ : ∃ s, c.self = s := ⟨_, rfl⟩
  rw [hcs] at c0
  by_cases h0 : sI < 0
  · clear a0 a1 hcs
    go_wp2_with ((with_reducible refine skip_not ?_ ?_; (focus (simp [Region.wanted, yielded]; done)); try simp only [Act.put, List.setIfInBounds_toArray, List.set_cons_zero, List.set_cons_succ]))
    refine (fixed_ok _).mono ?_
    rintro r w3 ⟨rfl, hb⟩
    replace hB := hB.trans (hb.mono hB.size)
    clear hb 
    go_wp2_with fail
    go_ret
    exact ⟨rfl, hB⟩
  by_cases h1 : 7 < sI
  · clear a0 a1 hcs
    go_wp2_with ((with_reducible refine skip_not ?_ ?_; (focus (simp [Region.wanted, yielded]; done)); try simp only [Act.put, List.setIfInBounds_toArray, List.set_cons_zero, List.set_cons_succ]))
    refine (fixed_ok _).mono ?_
    rintro r w3 ⟨rfl, hb⟩
    replace hB := hB.trans (hb.mono hB.size)
    clear hb 
    go_wp2_with fail
    go_ret
    exact ⟨rfl, hB⟩
  obtain ⟨s, rfl⟩ : ∃ s : Nat, sI = (s : Int) := ⟨sI.toNat, by omega⟩
  have hs : s < 8 := by omega
  have s0 : (s : Int) < 8 := by omega
  have s1 : (0 : Int) ≤ (s : Int) := by omega
  by_cases h2 : j < 0
  · clear a0 a1 hcs
    go_wp2_with ((with_reducible refine skip_not ?_ ?_; (focus (simp [Region.wanted, yielded]; done)); try simp only [Act.put, List.setIfInBounds_toArray, List.set_cons_zero, List.set_cons_succ]))
    refine (fixed_ok _).mono ?_
    rintro r w3 ⟨rfl, hb⟩
    replace hB := hB.trans (hb.mono hB.size)
    clear hb 
    go_wp2_with fail
    go_ret
    exact ⟨rfl, hB⟩
  by_cases h3 : 7 < j
  · clear a0 a1 hcs
    go_wp2_with ((with_reducible refine skip_not ?_ ?_; (focus (simp [Region.wanted, yielded]; done)); try simp only [Act.put, List.setIfInBounds_toArray, List.set_cons_zero, List.set_cons_succ]))
    refine (fixed_ok _).mono ?_
    rintro r w3 ⟨rfl, hb⟩
    replace hB := hB.trans (hb.mono hB.size)
    clear hb 
    go_wp2_with fail
    go_ret
    exact ⟨rfl, hB⟩
  obtain ⟨o, rfl⟩ : ∃ s : Nat, j = (s : Int) := ⟨j.toNat, by omega⟩
  have ho : o < 8 := by omega
  have o0 : (o : Int) < 8 := by omega
  have o1 : (0 : Int) ≤ (o : Int) := by omega
  by_cases h4 : o = s
  · subst h4
    clear a0 a1 hcs
    go_wp2_with ((with_reducible refine skip_not ?_ ?_; (focus (simp [Region.wanted, yielded]; done)); try simp only [Act.put, List.setIfInBounds_toArray, List.set_cons_zero, List.set_cons_succ]))
    refine (fixed_ok _).mono ?_
    rintro r w3 ⟨rfl, hb⟩
    replace hB := hB.trans (hb.mono hB.size)
    clear hb 
    go_wp2_with fail
    go_ret
    exact ⟨rfl, hB⟩
  have n4 : ((o : Int) == (s : Int)) = false := by rw [beq_eq_false_iff_ne]; omega
  have cs := a0.cell (43 + s) _ (c.get_want s hs)
  have co := a0.cell (43 + o) _ (c.get_want o ho)
  by_cases h5 : c.want s = 0
  · rw [h5] at cs
    clear a0 a1 hcs h4
    go_wp2_with ((with_reducible refine skip_not ?_ ?_; (focus (simp [Region.wanted, yielded]; done)); try simp only [Act.put, List.setIfInBounds_toArray, List.set_cons_zero, List.set_cons_succ]))
    refine (fixed_ok _).mono ?_
    rintro r w3 ⟨rfl, hb⟩
    replace hB := hB.trans (hb.mono hB.size)
    clear hb 
    go_wp2_with fail
    go_ret
    exact ⟨rfl, hB⟩
  have n5 : ((c.want s : Int) == 0) = false := by rw [beq_eq_false_iff_ne]; omega
  by_cases h6 : c.want o = 0
  · rw [h6] at co
    clear a0 a1 hcs h4 h5
    go_wp2_with ((with_reducible refine skip_not ?_ ?_; (focus (simp [Region.wanted, yielded]; done)); try simp only [Act.put, List.setIfInBounds_toArray, List.set_cons_zero, List.set_cons_succ]))
    refine (fixed_ok _).mono ?_
    rintro r w3 ⟨rfl, hb⟩
    replace hB := hB.trans (hb.mono hB.size)
    clear hb 
    go_wp2_with fail
    go_ret
    exact ⟨rfl, hB⟩
  have n6 : ((c.want o : Int) == 0) = false := by rw [beq_eq_false_iff_ne]; omega
  obtain ⟨hsame, hbig⟩ := same_targ c s o k hs ho hcs h4 h5 h6
  have pA := target_ok (oneC c o k)
  have pB := target_ok (twoC c s o k)
  rw [← hsame] at pB
  generalize targC (oneC c o k) = X at pA pB hbig
  have HX : Hid (∀ i, c.cut i ≤ X i ∧ k i ≤ X i) := hbig
  clear hsame hbig h4 h5 h6
  go_upto_region 3 with ((with_reducible refine skip_not ?_ ?_; (focus (simp [Region.wanted, yielded]; done)); try simp only [Act.put, List.setIfInBounds_toArray, List.set_cons_zero, List.set_cons_succ]))
  clear cs co n4 n5 n6 h0 h1 h2 h3 c0
  have hC0 : Below w1.heap.size w1 w1.drew := (Below.refl _ _).drew
  have l0 := a0.lt
  have l1 := a1.lt
  refine wp_region_held_drew (S := fun w' => Blk w.heap.size (coc c) 35 w' ∧ Blk (w.heap.size + 1) (mbc k) 29 w') (by kernel_rfl) ⟨a0.drew, a1.drew⟩ (fun hHeld => ?_)
  refine wpAnyH_take (i := 0) (v := ?v29) rfl (by kernel_rfl) (by kernel_rfl) (by kernel_rfl) (fun _ _ _ h => h) (Or.inl ⟨by rfl, ?hy29⟩) hHeld ?rest29
  case hy29 => (intro w hSw; clear hSw; go_simp; try with_reducible rfl)
  try simp only [List.getElem_toArray]
  try simp only [List.getElem_cons_succ]
  try simp only [List.getElem_cons_zero]
  try simp only [Act.put]
  try simp only [List.setIfInBounds_toArray]
  try simp only [List.set_cons_succ]
  try simp only [List.set_cons_zero]
  refine wpAnyH_take (i := 1) (v := ?v30) rfl (by kernel_rfl) (by kernel_rfl) (by kernel_rfl) (fun _ _ _ h => h) (Or.inl ⟨by rfl, ?hy30⟩) hHeld ?rest30
  case hy30 => (intro w hSw; have hc := hSw.1.cell 0 (.int .i64 c.self) rfl; rw [hcs] at hc; clear hSw; go_simp; try with_reducible rfl)
  try simp only [List.getElem_toArray]
  try simp only [List.getElem_cons_succ]
  try simp only [List.getElem_cons_zero]
  try simp only [Act.put]
  try simp only [List.setIfInBounds_toArray]
  try simp only [List.set_cons_succ]
  try simp only [List.set_cons_zero]
  refine wpAnyH_take (i := 2) (v := ?v31) rfl (by kernel_rfl) (by kernel_rfl) (by kernel_rfl) (fun _ _ _ h => h) (Or.inl ⟨by rfl, ?hy31⟩) hHeld ?rest31
  case hy31 => (intro w hSw; clear hSw; go_simp; try with_reducible rfl)
  try simp only [List.getElem_toArray]
  try simp only [List.getElem_cons_succ]
  try simp only [List.getElem_cons_zero]
  try simp only [Act.put]
  try simp only [List.setIfInBounds_toArray]
  try simp only [List.set_cons_succ]
  try simp only [List.set_cons_zero]
  refine wpAnyH_take (i := 3) (v := ?v32) rfl (by kernel_rfl) (by kernel_rfl) (by kernel_rfl) (fun _ _ _ h => h) (Or.inl ⟨by rfl, ?hy32⟩) hHeld ?rest32
  case hy32 => (intro w hSw; clear hSw; go_simp; try with_reducible rfl)
  try simp only [List.getElem_toArray]
  try simp only [List.getElem_cons_succ]
  try simp only [List.getElem_cons_zero]
  try simp only [Act.put]
  try simp only [List.setIfInBounds_toArray]
  try simp only [List.set_cons_succ]
  try simp only [List.set_cons_zero]
  refine wpAnyH_take (i := 4) (v := ?v33) rfl (by kernel_rfl) (by kernel_rfl) (by kernel_rfl) (fun _ _ _ h => h) (Or.inl ⟨by rfl, ?hy33⟩) hHeld ?rest33
  case hy33 => (intro w hSw; have hc := hSw.1.cell (43 + s) _ (c.get_want s hs); clear hSw; go_simp; try with_reducible rfl)
  try simp only [List.getElem_toArray]
  try simp only [List.getElem_cons_succ]
  try simp only [List.getElem_cons_zero]
  try simp only [Act.put]
  try simp only [List.setIfInBounds_toArray]
  try simp only [List.set_cons_succ]
  try simp only [List.set_cons_zero]
  refine wpAnyH_take (i := 5) (v := ?v34) rfl (by kernel_rfl) (by kernel_rfl) (by kernel_rfl) (fun _ _ _ h => h) (Or.inl ⟨by rfl, ?hy34⟩) hHeld ?rest34
  case hy34 => (intro w hSw; clear hSw; go_simp; try with_reducible rfl)
  try simp only [List.getElem_toArray]
  try simp only [List.getElem_cons_succ]
  try simp only [List.getElem_cons_zero]
  try simp only [Act.put]
  try simp only [List.setIfInBounds_toArray]
  try simp only [List.set_cons_succ]
  try simp only [List.set_cons_zero]
  refine' wpAnyH_take (i := 6) (v := _) rfl (by kernel_rfl) (by kernel_rfl) (by kernel_rfl) (fun _ _ _ h => h) (yieldsIf_load_mid (by rfl) _ _ rfl w.heap.size 20 rfl c.conf.vals _ ?hS35 Try.underlying27 rfl sizeIdn) hHeld ?rest35
  case hS35 => exact fun w h => h.1.range 20 _ c.p_conf
  try simp only [List.getElem_toArray]
  try simp only [List.getElem_cons_succ]
  try simp only [List.getElem_cons_zero]
  try simp only [Act.put]
  try simp only [List.setIfInBounds_toArray]
  try simp only [List.set_cons_succ]
  try simp only [List.set_cons_zero]
  refine wpAnyH_take (i := 7) (v := ?v36) rfl (by kernel_rfl) (by kernel_rfl) (by kernel_rfl) (fun _ _ _ h => h) (Or.inl ⟨by rfl, ?hy36⟩) hHeld ?rest36
  case hy36 => (intro w hSw; clear hSw; go_simp; try with_reducible rfl)
  try simp only [List.getElem_toArray]
  try simp only [List.getElem_cons_succ]
  try simp only [List.getElem_cons_zero]
  try simp only [Act.put]
  try simp only [List.setIfInBounds_toArray]
  try simp only [List.set_cons_succ]
  try simp only [List.set_cons_zero]
  refine' wpAnyH_take (i := 8) (v := _) rfl (by kernel_rfl) (by kernel_rfl) (by kernel_rfl) (fun _ _ _ h => h) (yieldsIf_load_mid (by rfl) _ _ rfl w.heap.size 40 rfl c.pr.vals _ ?hS37 Try.underlying27 rfl sizeIdn) hHeld ?rest37
  case hS37 => exact fun w h => h.1.range 40 _ c.p_pr
  try simp only [List.getElem_toArray]
  try simp only [List.getElem_cons_succ]
  try simp only [List.getElem_cons_zero]
  try simp only [Act.put]
  try simp only [List.setIfInBounds_toArray]
  try simp only [List.set_cons_succ]
  try simp only [List.set_cons_zero]
  refine wpAnyH_take (i := 9) (v := ?v38) rfl (by kernel_rfl) (by kernel_rfl) (by kernel_rfl) (fun _ _ _ h => h) (Or.inl ⟨by rfl, ?hy38⟩) hHeld ?rest38
  case hy38 => (intro w hSw; clear hSw; go_simp; try with_reducible rfl)
  try simp only [List.getElem_toArray]
  try simp only [List.getElem_cons_succ]
  try simp only [List.getElem_cons_zero]
  try simp only [Act.put]
  try simp only [List.setIfInBounds_toArray]
  try simp only [List.set_cons_succ]
  try simp only [List.set_cons_zero]
  refine' wpAnyH_take (i := 10) (v := _) rfl (by kernel_rfl) (by kernel_rfl) (by kernel_rfl) (fun _ _ _ h => h) (yieldsIf_load_mid (by rfl) _ _ rfl w.heap.size 51 rfl (row8 c.cut) _ ?hS39 Try.underlying29 rfl sizeCt) hHeld ?rest39
  case hS39 => exact fun w h => h.1.range 51 _ c.p_cut
  try simp only [List.getElem_toArray]
  try simp only [List.getElem_cons_succ]
  try simp only [List.getElem_cons_zero]
  try simp only [Act.put]
  try simp only [List.setIfInBounds_toArray]
  try simp only [List.set_cons_succ]
  try simp only [List.set_cons_zero]
  refine wpAnyH_take (i := 11) (v := .agg (meP c s).arr) rfl (by kernel_rfl) (by kernel_rfl) (by kernel_rfl) (fun _ _ _ h => h) (yields_build (by rfl) 32 #[(0, .tmp 60), (1, .tmp 62), (2, .tmp 64), (3, .tmp 66)] rfl (by kernel_rfl)) hHeld ?rest40
  try simp only [List.getElem_toArray]
  try simp only [List.getElem_cons_succ]
  try simp only [List.getElem_cons_zero]
  try simp only [Act.put]
  try simp only [List.setIfInBounds_toArray]
  try simp only [List.set_cons_succ]
  try simp only [List.set_cons_zero]
  refine wpAnyH_ready (rs := [12]) (by kernel_rfl) (by simp) ?_
  refine AllReadyH.cons rfl (fun K hK => ?_) (AllReadyH.nil)
  rw [if_pos (by rfl)]
  refine wp_alloc_any zeroPe rfl ?_
  intro xp u1 x1 hb xl xt
  have xg := Nat.le_trans hC0.size xl
  have hC1 := hC0.trans (hb.mono hC0.size)
  refine hK.out _ _ ⟨hHeld.1.below hb, hHeld.2.below hb⟩ (fun hHeld => ?_)
  clear hK K hb hC0
  try simp only [List.getElem_toArray]
  try simp only [List.getElem_cons_succ]
  try simp only [List.getElem_cons_zero]
  try simp only [Act.put]
  try simp only [List.setIfInBounds_toArray]
  try simp only [List.set_cons_succ]
  try simp only [List.set_cons_zero]
  refine wpAnyH_ready (rs := [13]) (by kernel_rfl) (by simp) ?_
  refine AllReadyH.cons rfl (fun K hK => ?_) (AllReadyH.nil)
  rw [if_pos (by rfl)]
  refine wp_store_all 32 _ _ rfl (cells := (meP c s).arr) x1 rfl rfl sizePe rfl (Pe.arr_one _) ?_
  intro u2 hn hk
  have hC2 := hC1.trans (hk.below (by simp <;> omega) hC1.size)
  have x2 := hn
  refine hK.out _ _ ⟨hHeld.1.kp hk (by simp <;> omega), hHeld.2.kp hk (by simp <;> omega)⟩ (fun hHeld => ?_)
  clear hK K hk hn hC1 x1
  try simp only [List.getElem_toArray]
  try simp only [List.getElem_cons_succ]
  try simp only [List.getElem_cons_zero]
  try simp only [Act.put]
  try simp only [List.setIfInBounds_toArray]
  try simp only [List.set_cons_succ]
  try simp only [List.set_cons_zero]
  refine wpAnyH_done (by kernel_rfl) ?_ _
  have a0 := hHeld.1
  have a1 := hHeld.2
  have a2 := x2
  replace hB := hB.trans (hC2.mono hB.size)
  clear hHeld x2 hC2 xl xt
  go_upto_region 4 with fail
  rename World => u3
  have hD0 : Below u3.heap.size u3 u3.drew := (Below.refl _ _).drew
  have m0 := a2.drew
  have l2 := a2.lt
  have l0 := a0.lt
  have l1 := a1.lt
  refine wp_region_held_drew (S := fun w' => Blk w.heap.size (coc c) 35 w' ∧ Blk (w.heap.size + 1) (mbc k) 29 w') (by kernel_rfl) ⟨a0.drew, a1.drew⟩ (fun hHeld => ?_)
  refine wpAnyH_take (i := 0) (v := ?v41) rfl (by kernel_rfl) (by kernel_rfl) (by kernel_rfl) (fun _ _ _ h => h) (Or.inl ⟨by rfl, ?hy41⟩) hHeld ?rest41
  case hy41 => (intro w hSw; clear hSw; go_simp; try with_reducible rfl)
  try simp only [List.getElem_toArray]
  try simp only [List.getElem_cons_succ]
  try simp only [List.getElem_cons_zero]
  try simp only [Act.put]
  try simp only [List.setIfInBounds_toArray]
  try simp only [List.set_cons_succ]
  try simp only [List.set_cons_zero]
  refine wpAnyH_take (i := 1) (v := ?v42) rfl (by kernel_rfl) (by kernel_rfl) (by kernel_rfl) (fun _ _ _ h => h) (Or.inl ⟨by rfl, ?hy42⟩) hHeld ?rest42
  case hy42 => (intro w hSw; clear hSw; go_simp; try with_reducible rfl)
  try simp only [List.getElem_toArray]
  try simp only [List.getElem_cons_succ]
  try simp only [List.getElem_cons_zero]
  try simp only [Act.put]
  try simp only [List.setIfInBounds_toArray]
  try simp only [List.set_cons_succ]
  try simp only [List.set_cons_zero]
  refine wpAnyH_take (i := 2) (v := ?v43) rfl (by kernel_rfl) (by kernel_rfl) (by kernel_rfl) (fun _ _ _ h => h) (Or.inl ⟨by rfl, ?hy43⟩) hHeld ?rest43
  case hy43 => (intro w hSw; clear hSw; go_simp; try with_reducible rfl)
  try simp only [List.getElem_toArray]
  try simp only [List.getElem_cons_succ]
  try simp only [List.getElem_cons_zero]
  try simp only [Act.put]
  try simp only [List.setIfInBounds_toArray]
  try simp only [List.set_cons_succ]
  try simp only [List.set_cons_zero]
  refine wpAnyH_take (i := 3) (v := ?v44) rfl (by kernel_rfl) (by kernel_rfl) (by kernel_rfl) (fun _ _ _ h => h) (Or.inl ⟨by rfl, ?hy44⟩) hHeld ?rest44
  case hy44 => (intro w hSw; have hc := hSw.1.cell (43 + o) _ (c.get_want o ho); clear hSw; go_simp; try with_reducible rfl)
  try simp only [List.getElem_toArray]
  try simp only [List.getElem_cons_succ]
  try simp only [List.getElem_cons_zero]
  try simp only [Act.put]
  try simp only [List.setIfInBounds_toArray]
  try simp only [List.set_cons_succ]
  try simp only [List.set_cons_zero]
  refine wpAnyH_take (i := 4) (v := ?v45) rfl (by kernel_rfl) (by kernel_rfl) (by kernel_rfl) (fun _ _ _ h => h) (Or.inl ⟨by rfl, ?hy45⟩) hHeld ?rest45
  case hy45 => (intro w hSw; clear hSw; go_simp; try with_reducible rfl)
  try simp only [List.getElem_toArray]
  try simp only [List.getElem_cons_succ]
  try simp only [List.getElem_cons_zero]
  try simp only [Act.put]
  try simp only [List.setIfInBounds_toArray]
  try simp only [List.set_cons_succ]
  try simp only [List.set_cons_zero]
  refine' wpAnyH_take (i := 5) (v := _) rfl (by kernel_rfl) (by kernel_rfl) (by kernel_rfl) (fun _ _ _ h => h) (yieldsIf_load_mid (by rfl) _ _ rfl w.heap.size 20 rfl c.conf.vals _ ?hS46 Try.underlying27 rfl sizeIdn) hHeld ?rest46
  case hS46 => exact fun w h => h.1.range 20 _ c.p_conf
  try simp only [List.getElem_toArray]
  try simp only [List.getElem_cons_succ]
  try simp only [List.getElem_cons_zero]
  try simp only [Act.put]
  try simp only [List.setIfInBounds_toArray]
  try simp only [List.set_cons_succ]
  try simp only [List.set_cons_zero]
  refine wpAnyH_take (i := 6) (v := ?v47) rfl (by kernel_rfl) (by kernel_rfl) (by kernel_rfl) (fun _ _ _ h => h) (Or.inl ⟨by rfl, ?hy47⟩) hHeld ?rest47
  case hy47 => (intro w hSw; clear hSw; go_simp; try with_reducible rfl)
  try simp only [List.getElem_toArray]
  try simp only [List.getElem_cons_succ]
  try simp only [List.getElem_cons_zero]
  try simp only [Act.put]
  try simp only [List.setIfInBounds_toArray]
  try simp only [List.set_cons_succ]
  try simp only [List.set_cons_zero]
  refine' wpAnyH_take (i := 7) (v := _) rfl (by kernel_rfl) (by kernel_rfl) (by kernel_rfl) (fun _ _ _ h => h) (yieldsIf_load_mid (by rfl) _ _ rfl w.heap.size 40 rfl c.pr.vals _ ?hS48 Try.underlying27 rfl sizeIdn) hHeld ?rest48
  case hS48 => exact fun w h => h.1.range 40 _ c.p_pr
  try simp only [List.getElem_toArray]
  try simp only [List.getElem_cons_succ]
  try simp only [List.getElem_cons_zero]
  try simp only [Act.put]
  try simp only [List.setIfInBounds_toArray]
  try simp only [List.set_cons_succ]
  try simp only [List.set_cons_zero]
  refine' wpAnyH_take (i := 8) (v := _) rfl (by kernel_rfl) (by kernel_rfl) (by kernel_rfl) (fun _ _ _ h => h) (yieldsIf_load_mid (by rfl) _ _ rfl (w.heap.size + 1) 0 rfl (row8 k) _ ?hS49 Try.underlying29 rfl sizeCt) hHeld ?rest49
  case hS49 => exact fun w h => h.2.whole
  try simp only [List.getElem_toArray]
  try simp only [List.getElem_cons_succ]
  try simp only [List.getElem_cons_zero]
  try simp only [Act.put]
  try simp only [List.setIfInBounds_toArray]
  try simp only [List.set_cons_succ]
  try simp only [List.set_cons_zero]
  refine wpAnyH_take (i := 9) (v := .agg (theyP c o k).arr) rfl (by kernel_rfl) (by kernel_rfl) (by kernel_rfl) (fun _ _ _ h => h) (yields_build (by rfl) 32 #[(0, .tmp 71), (1, .tmp 73), (2, .tmp 75), (3, .tmp 76)] rfl (by kernel_rfl)) hHeld ?rest50
  try simp only [List.getElem_toArray]
  try simp only [List.getElem_cons_succ]
  try simp only [List.getElem_cons_zero]
  try simp only [Act.put]
  try simp only [List.setIfInBounds_toArray]
  try simp only [List.set_cons_succ]
  try simp only [List.set_cons_zero]
  refine wpAnyH_ready (rs := [10]) (by kernel_rfl) (by simp) ?_
  refine AllReadyH.cons rfl (fun K hK => ?_) (AllReadyH.nil)
  rw [if_pos (by rfl)]
  refine wp_alloc_any zeroPe rfl ?_
  intro yp u1 y1 hb yl yt
  have yg := Nat.le_trans hD0.size yl
  have hD1 := hD0.trans (hb.mono hD0.size)
  have m1 := m0.below hb
  refine hK.out _ _ ⟨hHeld.1.below hb, hHeld.2.below hb⟩ (fun hHeld => ?_)
  clear hK K hb hD0 m0
  try simp only [List.getElem_toArray]
  try simp only [List.getElem_cons_succ]
  try simp only [List.getElem_cons_zero]
  try simp only [Act.put]
  try simp only [List.setIfInBounds_toArray]
  try simp only [List.set_cons_succ]
  try simp only [List.set_cons_zero]
  refine wpAnyH_ready (rs := [11]) (by kernel_rfl) (by simp) ?_
  refine AllReadyH.cons rfl (fun K hK => ?_) (AllReadyH.nil)
  rw [if_pos (by rfl)]
  refine wp_store_all 32 _ _ rfl (cells := (theyP c o k).arr) y1 rfl rfl sizePe rfl (Pe.arr_one _) ?_
  intro u2 hn hk
  have hD2 := hD1.trans (hk.below (by simp <;> omega) hD1.size)
  have m2 := m1.kp hk (by simp <;> omega)
  have y2 := hn
  refine hK.out _ _ ⟨hHeld.1.kp hk (by simp <;> omega), hHeld.2.kp hk (by simp <;> omega)⟩ (fun hHeld => ?_)
  clear hK K hk hn hD1 m1 y1
  try simp only [List.getElem_toArray]
  try simp only [List.getElem_cons_succ]
  try simp only [List.getElem_cons_zero]
  try simp only [Act.put]
  try simp only [List.setIfInBounds_toArray]
  try simp only [List.set_cons_succ]
  try simp only [List.set_cons_zero]
  refine wpAnyH_done (by kernel_rfl) ?_ _
  have a0 := hHeld.1
  have a1 := hHeld.2
  have a2 := m2
  have a3 := y2
  replace hB := hB.trans (hD2.mono hB.size)
  clear hHeld y2 hD2 m2 yl yt
  rename World => u5
  have l3 := a3.lt
  have l2' := a2.lt
  have hb := below_box u5 (.cells (coc c) 35)
  have a4 := blk_new u5 (coc c) 35
  go_upto_region 6 with (first | refine load_blk rfl 35 _ rfl a0 rfl Try.underlying35 rfl sizeCo ?_ | refine alloc_zero zeroCo rfl rfl ?_ | refine store_new rfl 35 _ _ rfl (cells := coc c) rfl rfl sizeCo rfl (coc_one _) ?_)
  try simp only [Act.put, List.setIfInBounds_toArray, List.set_cons_zero, List.set_cons_succ]
  generalize u5.alloc (Obj.cells (coc c) 35) = W5 at a4 hb ⊢
  replace a0 := a0.below hb
  replace a1 := a1.below hb
  replace a2 := a2.below hb
  replace a3 := a3.below hb
  replace hB := hB.trans (hb.mono hB.size)
  clear hb 
  generalize hpa : u5.heap.size = pa at *
  go_upto_region 7 with (first | refine load_blk rfl 32 _ rfl a3 rfl Try.underlying32 rfl sizePe ?_ | (refine store_part rfl 32 _ _ rfl (off := 60 + o * 16) (cells := (theyP c o k).arr) a4 rfl rfl sizePe (by show 60 + o * 16 + 16 ≤ 189; omega) (Pe.arr_one _) ?_; intro w6 b6 k5; rw [Co.s_peer c o _ ho] at b6; replace a0 := a0.kp1 k5 (by omega); replace a1 := a1.kp1 k5 (by omega); replace a2 := a2.kp1 k5 (by omega); replace a3 := a3.kp1 k5 (by omega); replace hB : Below w.heap.size w w6 := hB.trans (k5.below1 (by omega) hB.size)))
  have a4 : Blk pa (coc (oneC c o k)) 35 w6 := b6
  clear b6
  have e0 := a0.lt
  have e1 := a1.lt
  have e2 := a2.lt
  have e4 := a4.lt
  have hb := below_box w6 (.cells (coc c) 35)
  have a5 := blk_new w6 (coc c) 35
  go_upto_region 8 with (first | refine load_blk rfl 35 _ rfl a0 rfl Try.underlying35 rfl sizeCo ?_ | refine alloc_zero zeroCo rfl rfl ?_ | refine store_new rfl 35 _ _ rfl (cells := coc c) rfl rfl sizeCo rfl (coc_one _) ?_)
  try simp only [Act.put, List.setIfInBounds_toArray, List.set_cons_zero, List.set_cons_succ]
  generalize w6.alloc (Obj.cells (coc c) 35) = W7 at a5 hb ⊢
  replace a0 := a0.below hb
  replace a1 := a1.below hb
  replace a2 := a2.below hb
  replace a3 := a3.below hb
  replace a4 := a4.below hb
  replace hB := hB.trans (hb.mono hB.size)
  clear hb 
  have l4 := a4.lt
  generalize hpb : w6.heap.size = pb at *
  go_upto_region 11 with (first | (refine store_one rfl 3 _ _ rfl (off := 0) (.int .i64 (o : Int)) a5 rfl rfl rfl rfl sizeInt (by show 0 + 1 ≤ 189; omega) ?_; intro w7 b7 k5; rw [Co.s_self] at b7; replace a0 := a0.kp1 k5 (by omega); replace a1 := a1.kp1 k5 (by omega); replace a2 := a2.kp1 k5 (by omega); replace a4 := a4.kp1 k5 (by omega); replace hB : Below w.heap.size w w7 := hB.trans (k5.below1 (by omega) hB.size)) | refine load_blk rfl 29 _ rfl a1 rfl Try.underlying29 rfl sizeCt ?_ | (refine store_part rfl 29 _ _ rfl (off := 51) (cells := mbc k) b7 rfl rfl sizeCt (by show 51 + 8 ≤ 189; omega) (mbc_one _) ?_; intro w8 b8 k5; rw [Co.s_cut] at b8; replace a0 := a0.kp1 k5 (by omega); replace a1 := a1.kp1 k5 (by omega); replace a2 := a2.kp1 k5 (by omega); replace a4 := a4.kp1 k5 (by omega); replace hB : Below w.heap.size w w8 := hB.trans (k5.below1 (by omega) hB.size); have c9 := a0.cell 0 (.int .i64 c.self) rfl; rw [hcs] at c9) | refine load_blk rfl 32 _ rfl a2 rfl Try.underlying32 rfl sizePe ?_ | (refine store_part rfl 32 _ _ rfl (off := 60 + s * 16) (cells := (meP c s).arr) b8 rfl rfl sizePe (by show 60 + s * 16 + 16 ≤ 189; omega) (Pe.arr_one _) ?_; intro w9 b9 k5; rw [Co.s_peer _ s _ hs] at b9; replace a0 := a0.kp1 k5 (by omega); replace a1 := a1.kp1 k5 (by omega); replace a4 := a4.kp1 k5 (by omega); replace hB : Below w.heap.size w w9 := hB.trans (k5.below1 (by omega) hB.size)))
  try simp only [Act.put]
  have a5 : Blk pb (coc (twoC c s o k)) 35 w9 := b9
  clear b9
  have l5 := a5.lt
  have l4' := a4.lt
  have l0' := a0.lt
  have l1' := a1.lt
  have hC0 : Below w9.heap.size w9 w9.drew := (Below.refl _ _).drew
  go_cut [11, 12] from 93 to 96 (fun pv ov wx => Cut w w9 c k X pv ov wx)
  case first =>
    refine wp_region_held_drew (S := fun w' => Blk w.heap.size (coc c) 35 w' ∧ Blk (w.heap.size + 1) (mbc k) 29 w' ∧ Blk pa (coc (oneC c o k)) 35 w' ∧ Blk pb (coc (twoC c s o k)) 35 w') (by kernel_rfl) ⟨a0, a1, a4, a5⟩ (fun hHeld => ?_)
    refine' wpAnyH_take (i := 0) (v := _) rfl (by kernel_rfl) (by kernel_rfl) (by kernel_rfl) (fun _ _ _ h => h) (yieldsIf_load_mid (by rfl) _ _ rfl pa 0 rfl (col (oneC c o k)) _ ?hS10 Try.underlying35 rfl sizeCo) hHeld ?rest10
    case hS10 => exact fun w h => h.2.2.1.whole
    try simp only [List.getElem_toArray]
    try simp only [List.getElem_cons_succ]
    try simp only [List.getElem_cons_zero]
    try simp only [Act.put]
    try simp only [List.setIfInBounds_toArray]
    try simp only [List.set_cons_succ]
    try simp only [List.set_cons_zero]
    refine' wpAnyH_take (i := 2) (v := _) rfl (by kernel_rfl) (by kernel_rfl) (by kernel_rfl) (fun _ _ _ h => h) (yieldsIf_load_mid (by rfl) _ _ rfl pb 0 rfl (col (twoC c s o k)) _ ?hS11 Try.underlying35 rfl sizeCo) hHeld ?rest11
    case hS11 => exact fun w h => h.2.2.2.whole
    try simp only [List.getElem_toArray]
    try simp only [List.getElem_cons_succ]
    try simp only [List.getElem_cons_zero]
    try simp only [Act.put]
    try simp only [List.setIfInBounds_toArray]
    try simp only [List.set_cons_succ]
    try simp only [List.set_cons_zero]
    refine wpAnyH_ready (rs := [1, 4, 5]) (by kernel_rfl) (by simp) ?_
    refine AllReadyH.cons rfl (fun K hK => ?_) (AllReadyH.cons rfl (fun K hK => ?_) (AllReadyH.cons rfl (fun K hK => ?_) (AllReadyH.nil)))
    · go_simp
      go_wp2_with (refine (pA _).mono ?_; rintro r u1 ⟨rfl, hb⟩)
      have hC1 := hC0.trans (hb.mono hC0.size)
      refine hK.out _ _ ⟨hHeld.1.below hb, hHeld.2.1.below hb, hHeld.2.2.1.below hb, hHeld.2.2.2.below hb⟩ (fun hHeld => ?_)
      clear hK K hb hC0
      refine wpAnyH_ready (rs := [3, 4, 5]) (by kernel_rfl) (by simp) ?_
      refine AllReadyH.cons rfl (fun K hK => ?_) (AllReadyH.cons rfl (fun K hK => ?_) (AllReadyH.cons rfl (fun K hK => ?_) (AllReadyH.nil)))
      · go_simp
        go_wp2_with (refine (pB _).mono ?_; rintro r u2 ⟨rfl, hb⟩)
        have hC2 := hC1.trans (hb.mono hC1.size)
        refine hK.out _ _ ⟨hHeld.1.below hb, hHeld.2.1.below hb, hHeld.2.2.1.below hb, hHeld.2.2.2.below hb⟩ (fun hHeld => ?_)
        clear hK K hb hC1
        refine wpAnyH_ready (rs := [4, 5]) (by kernel_rfl) (by simp) ?_
        refine AllReadyH.cons rfl (fun K hK => ?_) (AllReadyH.cons rfl (fun K hK => ?_) (AllReadyH.nil))
        · rw [if_pos (by rfl)]
          refine wp_alloc_any zeroCt rfl ?_
          intro xp u3 x3 hb xl xt
          have xg := Nat.le_trans hC2.size xl
          have hC3 := hC2.trans (hb.mono hC2.size)
          refine hK.out _ _ ⟨hHeld.1.below hb, hHeld.2.1.below hb, hHeld.2.2.1.below hb, hHeld.2.2.2.below hb⟩ (fun hHeld => ?_)
          clear hK K hb hC2
          try simp only [List.getElem_toArray]
          try simp only [List.getElem_cons_succ]
          try simp only [List.getElem_cons_zero]
          try simp only [Act.put]
          try simp only [List.setIfInBounds_toArray]
          try simp only [List.set_cons_succ]
          try simp only [List.set_cons_zero]
          refine wpAnyH_ready (rs := [5]) (by kernel_rfl) (by simp) ?_
          refine AllReadyH.cons rfl (fun K hK => ?_) (AllReadyH.nil)
          rw [if_pos (by rfl)]
          refine wp_alloc_any zeroCt rfl ?_
          intro yp u4 y4 hb yl yt
          have xyn : xp < yp := Nat.lt_of_lt_of_le x3.lt yl
          have yg := Nat.le_trans hC3.size yl
          have hC4 := hC3.trans (hb.mono hC3.size)
          have x4 := x3.below hb
          refine hK.out _ _ ⟨hHeld.1.below hb, hHeld.2.1.below hb, hHeld.2.2.1.below hb, hHeld.2.2.2.below hb⟩ (fun hHeld => ?_)
          clear hK K hb hC3 x3
          try simp only [List.getElem_toArray]
          try simp only [List.getElem_cons_succ]
          try simp only [List.getElem_cons_zero]
          try simp only [Act.put]
          try simp only [List.setIfInBounds_toArray]
          try simp only [List.set_cons_succ]
          try simp only [List.set_cons_zero]
          refine wpAnyH_ready (rs := [6]) (by kernel_rfl) (by simp) ?_
          refine AllReadyH.cons rfl (fun K hK => ?_) (AllReadyH.nil)
          rw [if_pos (by rfl)]
          refine wp_store_all 29 _ _ rfl (cells := (mbc X)) x4 rfl rfl sizeCt rfl (mbc_one _) ?_
          intro u5 hn hk
          have hC5 := hC4.trans (hk.below (by simp <;> omega) hC4.size)
          have x5 := hn
          have y5 := y4.kp hk (by simp <;> omega)
          refine hK.out _ _ ⟨hHeld.1.kp hk (by simp <;> omega), hHeld.2.1.kp hk (by simp <;> omega), hHeld.2.2.1.kp hk (by simp <;> omega), hHeld.2.2.2.kp hk (by simp <;> omega)⟩ (fun hHeld => ?_)
          clear hK K hk hn hC4 x4 y4
          try simp only [List.getElem_toArray]
          try simp only [List.getElem_cons_succ]
          try simp only [List.getElem_cons_zero]
          try simp only [Act.put]
          try simp only [List.setIfInBounds_toArray]
          try simp only [List.set_cons_succ]
          try simp only [List.set_cons_zero]
          refine wpAnyH_ready (rs := [7]) (by kernel_rfl) (by simp) ?_
          refine AllReadyH.cons rfl (fun K hK => ?_) (AllReadyH.nil)
          rw [if_pos (by rfl)]
          refine wp_store_all 29 _ _ rfl (cells := (mbc X)) y5 rfl rfl sizeCt rfl (mbc_one _) ?_
          intro u6 hn hk
          have hC6 := hC5.trans (hk.below (by simp <;> omega) hC5.size)
          have x6 := x5.kp hk (by simp <;> omega)
          have y6 := hn
          refine hK.out _ _ ⟨hHeld.1.kp hk (by simp <;> omega), hHeld.2.1.kp hk (by simp <;> omega), hHeld.2.2.1.kp hk (by simp <;> omega), hHeld.2.2.2.kp hk (by simp <;> omega)⟩ (fun hHeld => ?_)
          clear hK K hk hn hC5 x5 y5
          try simp only [List.getElem_toArray]
          try simp only [List.getElem_cons_succ]
          try simp only [List.getElem_cons_zero]
          try simp only [Act.put]
          try simp only [List.setIfInBounds_toArray]
          try simp only [List.set_cons_succ]
          try simp only [List.set_cons_zero]
          refine wpAnyH_done (by kernel_rfl) ?_ _
          go_wp2_with fail
          go_meet
          exact ⟨xp, yp, rfl, rfl, hHeld.1, hHeld.2.1, x6, y6, hC6⟩
        · rw [if_pos (by rfl)]
          refine wp_alloc_any zeroCt rfl ?_
          intro yp u7 y3 hb yl yt
          have yg := Nat.le_trans hC2.size yl
          have hC3 := hC2.trans (hb.mono hC2.size)
          refine hK.out _ _ ⟨hHeld.1.below hb, hHeld.2.1.below hb, hHeld.2.2.1.below hb, hHeld.2.2.2.below hb⟩ (fun hHeld => ?_)
          clear hK K hb hC2
          try simp only [List.getElem_toArray]
          try simp only [List.getElem_cons_succ]
          try simp only [List.getElem_cons_zero]
          try simp only [Act.put]
          try simp only [List.setIfInBounds_toArray]
          try simp only [List.set_cons_succ]
          try simp only [List.set_cons_zero]
          refine wpAnyH_ready (rs := [4]) (by kernel_rfl) (by simp) ?_
          refine AllReadyH.cons rfl (fun K hK => ?_) (AllReadyH.nil)
          rw [if_pos (by rfl)]
          refine wp_alloc_any zeroCt rfl ?_
          intro xp u8 x4 hb xl xt
          have yxn : yp < xp := Nat.lt_of_lt_of_le y3.lt xl
          have xg := Nat.le_trans hC3.size xl
          have hC4 := hC3.trans (hb.mono hC3.size)
          have y4 := y3.below hb
          refine hK.out _ _ ⟨hHeld.1.below hb, hHeld.2.1.below hb, hHeld.2.2.1.below hb, hHeld.2.2.2.below hb⟩ (fun hHeld => ?_)
          clear hK K hb hC3 y3
          try simp only [List.getElem_toArray]
          try simp only [List.getElem_cons_succ]
          try simp only [List.getElem_cons_zero]
          try simp only [Act.put]
          try simp only [List.setIfInBounds_toArray]
          try simp only [List.set_cons_succ]
          try simp only [List.set_cons_zero]
          refine wpAnyH_ready (rs := [6]) (by kernel_rfl) (by simp) ?_
          refine AllReadyH.cons rfl (fun K hK => ?_) (AllReadyH.nil)
          rw [if_pos (by rfl)]
          refine wp_store_all 29 _ _ rfl (cells := (mbc X)) x4 rfl rfl sizeCt rfl (mbc_one _) ?_
          intro u9 hn hk
          have hC5 := hC4.trans (hk.below (by simp <;> omega) hC4.size)
          have y5 := y4.kp hk (by simp <;> omega)
          have x5 := hn
          refine hK.out _ _ ⟨hHeld.1.kp hk (by simp <;> omega), hHeld.2.1.kp hk (by simp <;> omega), hHeld.2.2.1.kp hk (by simp <;> omega), hHeld.2.2.2.kp hk (by simp <;> omega)⟩ (fun hHeld => ?_)
          clear hK K hk hn hC4 y4 x4
          try simp only [List.getElem_toArray]
          try simp only [List.getElem_cons_succ]
          try simp only [List.getElem_cons_zero]
          try simp only [Act.put]
          try simp only [List.setIfInBounds_toArray]
          try simp only [List.set_cons_succ]
          try simp only [List.set_cons_zero]
          refine wpAnyH_ready (rs := [7]) (by kernel_rfl) (by simp) ?_
          refine AllReadyH.cons rfl (fun K hK => ?_) (AllReadyH.nil)
          rw [if_pos (by rfl)]
          refine wp_store_all 29 _ _ rfl (cells := (mbc X)) y5 rfl rfl sizeCt rfl (mbc_one _) ?_
          intro u10 hn hk
          have hC6 := hC5.trans (hk.below (by simp <;> omega) hC5.size)
          have y6 := hn
          have x6 := x5.kp hk (by simp <;> omega)
          refine hK.out _ _ ⟨hHeld.1.kp hk (by simp <;> omega), hHeld.2.1.kp hk (by simp <;> omega), hHeld.2.2.1.kp hk (by simp <;> omega), hHeld.2.2.2.kp hk (by simp <;> omega)⟩ (fun hHeld => ?_)
          clear hK K hk hn hC5 y5 x5
          try simp only [List.getElem_toArray]
          try simp only [List.getElem_cons_succ]
          try simp only [List.getElem_cons_zero]
          try simp only [Act.put]
          try simp only [List.setIfInBounds_toArray]
          try simp only [List.set_cons_succ]
          try simp only [List.set_cons_zero]
          refine wpAnyH_done (by kernel_rfl) ?_ _
          go_wp2_with fail
          go_meet
          exact ⟨xp, yp, rfl, rfl, hHeld.1, hHeld.2.1, x6, y6, hC6⟩
      · rw [if_pos (by rfl)]
        refine wp_alloc_any zeroCt rfl ?_
        intro xp u11 x2 hb xl xt
        have xg := Nat.le_trans hC1.size xl
        have hC2 := hC1.trans (hb.mono hC1.size)
        refine hK.out _ _ ⟨hHeld.1.below hb, hHeld.2.1.below hb, hHeld.2.2.1.below hb, hHeld.2.2.2.below hb⟩ (fun hHeld => ?_)
        clear hK K hb hC1
        try simp only [List.getElem_toArray]
        try simp only [List.getElem_cons_succ]
        try simp only [List.getElem_cons_zero]
        try simp only [Act.put]
        try simp only [List.setIfInBounds_toArray]
        try simp only [List.set_cons_succ]
        try simp only [List.set_cons_zero]
        refine wpAnyH_ready (rs := [3, 5]) (by kernel_rfl) (by simp) ?_
        refine AllReadyH.cons rfl (fun K hK => ?_) (AllReadyH.cons rfl (fun K hK => ?_) (AllReadyH.nil))
        · go_simp
          go_wp2_with (refine (pB _).mono ?_; rintro r u12 ⟨rfl, hb⟩)
          have hC3 := hC2.trans (hb.mono hC2.size)
          have x3 := x2.below hb
          refine hK.out _ _ ⟨hHeld.1.below hb, hHeld.2.1.below hb, hHeld.2.2.1.below hb, hHeld.2.2.2.below hb⟩ (fun hHeld => ?_)
          clear hK K hb hC2 x2
          refine wpAnyH_ready (rs := [5]) (by kernel_rfl) (by simp) ?_
          refine AllReadyH.cons rfl (fun K hK => ?_) (AllReadyH.nil)
          rw [if_pos (by rfl)]
          refine wp_alloc_any zeroCt rfl ?_
          intro yp u13 y4 hb yl yt
          have xyn : xp < yp := Nat.lt_of_lt_of_le x3.lt yl
          have yg := Nat.le_trans hC3.size yl
          have hC4 := hC3.trans (hb.mono hC3.size)
          have x4 := x3.below hb
          refine hK.out _ _ ⟨hHeld.1.below hb, hHeld.2.1.below hb, hHeld.2.2.1.below hb, hHeld.2.2.2.below hb⟩ (fun hHeld => ?_)
          clear hK K hb hC3 x3
          try simp only [List.getElem_toArray]
          try simp only [List.getElem_cons_succ]
          try simp only [List.getElem_cons_zero]
          try simp only [Act.put]
          try simp only [List.setIfInBounds_toArray]
          try simp only [List.set_cons_succ]
          try simp only [List.set_cons_zero]
          refine wpAnyH_ready (rs := [6]) (by kernel_rfl) (by simp) ?_
          refine AllReadyH.cons rfl (fun K hK => ?_) (AllReadyH.nil)
          rw [if_pos (by rfl)]
          refine wp_store_all 29 _ _ rfl (cells := (mbc X)) x4 rfl rfl sizeCt rfl (mbc_one _) ?_
          intro u14 hn hk
          have hC5 := hC4.trans (hk.below (by simp <;> omega) hC4.size)
          have x5 := hn
          have y5 := y4.kp hk (by simp <;> omega)
          refine hK.out _ _ ⟨hHeld.1.kp hk (by simp <;> omega), hHeld.2.1.kp hk (by simp <;> omega), hHeld.2.2.1.kp hk (by simp <;> omega), hHeld.2.2.2.kp hk (by simp <;> omega)⟩ (fun hHeld => ?_)
          clear hK K hk hn hC4 x4 y4
          try simp only [List.getElem_toArray]
          try simp only [List.getElem_cons_succ]
          try simp only [List.getElem_cons_zero]
          try simp only [Act.put]
          try simp only [List.setIfInBounds_toArray]
          try simp only [List.set_cons_succ]
          try simp only [List.set_cons_zero]
          refine wpAnyH_ready (rs := [7]) (by kernel_rfl) (by simp) ?_
          refine AllReadyH.cons rfl (fun K hK => ?_) (AllReadyH.nil)
          rw [if_pos (by rfl)]
          refine wp_store_all 29 _ _ rfl (cells := (mbc X)) y5 rfl rfl sizeCt rfl (mbc_one _) ?_
          intro u15 hn hk
          have hC6 := hC5.trans (hk.below (by simp <;> omega) hC5.size)
          have x6 := x5.kp hk (by simp <;> omega)
          have y6 := hn
          refine hK.out _ _ ⟨hHeld.1.kp hk (by simp <;> omega), hHeld.2.1.kp hk (by simp <;> omega), hHeld.2.2.1.kp hk (by simp <;> omega), hHeld.2.2.2.kp hk (by simp <;> omega)⟩ (fun hHeld => ?_)
          clear hK K hk hn hC5 x5 y5
          try simp only [List.getElem_toArray]
          try simp only [List.getElem_cons_succ]
          try simp only [List.getElem_cons_zero]
          try simp only [Act.put]
          try simp only [List.setIfInBounds_toArray]
          try simp only [List.set_cons_succ]
          try simp only [List.set_cons_zero]
          refine wpAnyH_done (by kernel_rfl) ?_ _
          go_wp2_with fail
          go_meet
          exact ⟨xp, yp, rfl, rfl, hHeld.1, hHeld.2.1, x6, y6, hC6⟩
        · rw [if_pos (by rfl)]
          refine wp_alloc_any zeroCt rfl ?_
          intro yp u16 y3 hb yl yt
          have xyn : xp < yp := Nat.lt_of_lt_of_le x2.lt yl
          have yg := Nat.le_trans hC2.size yl
          have hC3 := hC2.trans (hb.mono hC2.size)
          have x3 := x2.below hb
          refine hK.out _ _ ⟨hHeld.1.below hb, hHeld.2.1.below hb, hHeld.2.2.1.below hb, hHeld.2.2.2.below hb⟩ (fun hHeld => ?_)
          clear hK K hb hC2 x2
          try simp only [List.getElem_toArray]
          try simp only [List.getElem_cons_succ]
          try simp only [List.getElem_cons_zero]
          try simp only [Act.put]
          try simp only [List.setIfInBounds_toArray]
          try simp only [List.set_cons_succ]
          try simp only [List.set_cons_zero]
          refine wpAnyH_ready (rs := [3]) (by kernel_rfl) (by simp) ?_
          refine AllReadyH.cons rfl (fun K hK => ?_) (AllReadyH.nil)
          go_simp
          go_wp2_with (refine (pB _).mono ?_; rintro r u17 ⟨rfl, hb⟩)
          have hC4 := hC3.trans (hb.mono hC3.size)
          have x4 := x3.below hb
          have y4 := y3.below hb
          refine hK.out _ _ ⟨hHeld.1.below hb, hHeld.2.1.below hb, hHeld.2.2.1.below hb, hHeld.2.2.2.below hb⟩ (fun hHeld => ?_)
          clear hK K hb hC3 x3 y3
          refine wpAnyH_ready (rs := [6]) (by kernel_rfl) (by simp) ?_
          refine AllReadyH.cons rfl (fun K hK => ?_) (AllReadyH.nil)
          rw [if_pos (by rfl)]
          refine wp_store_all 29 _ _ rfl (cells := (mbc X)) x4 rfl rfl sizeCt rfl (mbc_one _) ?_
          intro u18 hn hk
          have hC5 := hC4.trans (hk.below (by simp <;> omega) hC4.size)
          have x5 := hn
          have y5 := y4.kp hk (by simp <;> omega)
          refine hK.out _ _ ⟨hHeld.1.kp hk (by simp <;> omega), hHeld.2.1.kp hk (by simp <;> omega), hHeld.2.2.1.kp hk (by simp <;> omega), hHeld.2.2.2.kp hk (by simp <;> omega)⟩ (fun hHeld => ?_)
          clear hK K hk hn hC4 x4 y4
          try simp only [List.getElem_toArray]
          try simp only [List.getElem_cons_succ]
          try simp only [List.getElem_cons_zero]
          try simp only [Act.put]
          try simp only [List.setIfInBounds_toArray]
          try simp only [List.set_cons_succ]
          try simp only [List.set_cons_zero]
          refine wpAnyH_ready (rs := [7]) (by kernel_rfl) (by simp) ?_
          refine AllReadyH.cons rfl (fun K hK => ?_) (AllReadyH.nil)
          rw [if_pos (by rfl)]
          refine wp_store_all 29 _ _ rfl (cells := (mbc X)) y5 rfl rfl sizeCt rfl (mbc_one _) ?_
          intro u19 hn hk
          have hC6 := hC5.trans (hk.below (by simp <;> omega) hC5.size)
          have x6 := x5.kp hk (by simp <;> omega)
          have y6 := hn
          refine hK.out _ _ ⟨hHeld.1.kp hk (by simp <;> omega), hHeld.2.1.kp hk (by simp <;> omega), hHeld.2.2.1.kp hk (by simp <;> omega), hHeld.2.2.2.kp hk (by simp <;> omega)⟩ (fun hHeld => ?_)
          clear hK K hk hn hC5 x5 y5
          try simp only [List.getElem_toArray]
          try simp only [List.getElem_cons_succ]
          try simp only [List.getElem_cons_zero]
          try simp only [Act.put]
          try simp only [List.setIfInBounds_toArray]
          try simp only [List.set_cons_succ]
          try simp only [List.set_cons_zero]
          refine wpAnyH_done (by kernel_rfl) ?_ _
          go_wp2_with fail
          go_meet
          exact ⟨xp, yp, rfl, rfl, hHeld.1, hHeld.2.1, x6, y6, hC6⟩
      · rw [if_pos (by rfl)]
        refine wp_alloc_any zeroCt rfl ?_
        intro yp u20 y2 hb yl yt
        have yg := Nat.le_trans hC1.size yl
        have hC2 := hC1.trans (hb.mono hC1.size)
        refine hK.out _ _ ⟨hHeld.1.below hb, hHeld.2.1.below hb, hHeld.2.2.1.below hb, hHeld.2.2.2.below hb⟩ (fun hHeld => ?_)
        clear hK K hb hC1
        try simp only [List.getElem_toArray]
        try simp only [List.getElem_cons_succ]
        try simp only [List.getElem_cons_zero]
        try simp only [Act.put]
        try simp only [List.setIfInBounds_toArray]
        try simp only [List.set_cons_succ]
        try simp only [List.set_cons_zero]
        refine wpAnyH_ready (rs := [3, 4]) (by kernel_rfl) (by simp) ?_
        refine AllReadyH.cons rfl (fun K hK => ?_) (AllReadyH.cons rfl (fun K hK => ?_) (AllReadyH.nil))
        · go_simp
          go_wp2_with (refine (pB _).mono ?_; rintro r u21 ⟨rfl, hb⟩)
          have hC3 := hC2.trans (hb.mono hC2.size)
          have y3 := y2.below hb
          refine hK.out _ _ ⟨hHeld.1.below hb, hHeld.2.1.below hb, hHeld.2.2.1.below hb, hHeld.2.2.2.below hb⟩ (fun hHeld => ?_)
          clear hK K hb hC2 y2
          refine wpAnyH_ready (rs := [4]) (by kernel_rfl) (by simp) ?_
          refine AllReadyH.cons rfl (fun K hK => ?_) (AllReadyH.nil)
          rw [if_pos (by rfl)]
          refine wp_alloc_any zeroCt rfl ?_
          intro xp u22 x4 hb xl xt
          have yxn : yp < xp := Nat.lt_of_lt_of_le y3.lt xl
          have xg := Nat.le_trans hC3.size xl
          have hC4 := hC3.trans (hb.mono hC3.size)
          have y4 := y3.below hb
          refine hK.out _ _ ⟨hHeld.1.below hb, hHeld.2.1.below hb, hHeld.2.2.1.below hb, hHeld.2.2.2.below hb⟩ (fun hHeld => ?_)
          clear hK K hb hC3 y3
          try simp only [List.getElem_toArray]
          try simp only [List.getElem_cons_succ]
          try simp only [List.getElem_cons_zero]
          try simp only [Act.put]
          try simp only [List.setIfInBounds_toArray]
          try simp only [List.set_cons_succ]
          try simp only [List.set_cons_zero]
          refine wpAnyH_ready (rs := [6]) (by kernel_rfl) (by simp) ?_
          refine AllReadyH.cons rfl (fun K hK => ?_) (AllReadyH.nil)
          rw [if_pos (by rfl)]
          refine wp_store_all 29 _ _ rfl (cells := (mbc X)) x4 rfl rfl sizeCt rfl (mbc_one _) ?_
          intro u23 hn hk
          have hC5 := hC4.trans (hk.below (by simp <;> omega) hC4.size)
          have y5 := y4.kp hk (by simp <;> omega)
          have x5 := hn
          refine hK.out _ _ ⟨hHeld.1.kp hk (by simp <;> omega), hHeld.2.1.kp hk (by simp <;> omega), hHeld.2.2.1.kp hk (by simp <;> omega), hHeld.2.2.2.kp hk (by simp <;> omega)⟩ (fun hHeld => ?_)
          clear hK K hk hn hC4 y4 x4
          try simp only [List.getElem_toArray]
          try simp only [List.getElem_cons_succ]
          try simp only [List.getElem_cons_zero]
          try simp only [Act.put]
          try simp only [List.setIfInBounds_toArray]
          try simp only [List.set_cons_succ]
          try simp only [List.set_cons_zero]
          refine wpAnyH_ready (rs := [7]) (by kernel_rfl) (by simp) ?_
          refine AllReadyH.cons rfl (fun K hK => ?_) (AllReadyH.nil)
          rw [if_pos (by rfl)]
          refine wp_store_all 29 _ _ rfl (cells := (mbc X)) y5 rfl rfl sizeCt rfl (mbc_one _) ?_
          intro u24 hn hk
          have hC6 := hC5.trans (hk.below (by simp <;> omega) hC5.size)
          have y6 := hn
          have x6 := x5.kp hk (by simp <;> omega)
          refine hK.out _ _ ⟨hHeld.1.kp hk (by simp <;> omega), hHeld.2.1.kp hk (by simp <;> omega), hHeld.2.2.1.kp hk (by simp <;> omega), hHeld.2.2.2.kp hk (by simp <;> omega)⟩ (fun hHeld => ?_)
          clear hK K hk hn hC5 y5 x5
          try simp only [List.getElem_toArray]
          try simp only [List.getElem_cons_succ]
          try simp only [List.getElem_cons_zero]
          try simp only [Act.put]
          try simp only [List.setIfInBounds_toArray]
          try simp only [List.set_cons_succ]
          try simp only [List.set_cons_zero]
          refine wpAnyH_done (by kernel_rfl) ?_ _
          go_wp2_with fail
          go_meet
          exact ⟨xp, yp, rfl, rfl, hHeld.1, hHeld.2.1, x6, y6, hC6⟩
        · rw [if_pos (by rfl)]
          refine wp_alloc_any zeroCt rfl ?_
          intro xp u25 x3 hb xl xt
          have yxn : yp < xp := Nat.lt_of_lt_of_le y2.lt xl
          have xg := Nat.le_trans hC2.size xl
          have hC3 := hC2.trans (hb.mono hC2.size)
          have y3 := y2.below hb
          refine hK.out _ _ ⟨hHeld.1.below hb, hHeld.2.1.below hb, hHeld.2.2.1.below hb, hHeld.2.2.2.below hb⟩ (fun hHeld => ?_)
          clear hK K hb hC2 y2
          try simp only [List.getElem_toArray]
          try simp only [List.getElem_cons_succ]
          try simp only [List.getElem_cons_zero]
          try simp only [Act.put]
          try simp only [List.setIfInBounds_toArray]
          try simp only [List.set_cons_succ]
          try simp only [List.set_cons_zero]
          refine wpAnyH_ready (rs := [3]) (by kernel_rfl) (by simp) ?_
          refine AllReadyH.cons rfl (fun K hK => ?_) (AllReadyH.nil)
          go_simp
          go_wp2_with (refine (pB _).mono ?_; rintro r u26 ⟨rfl, hb⟩)
          have hC4 := hC3.trans (hb.mono hC3.size)
          have y4 := y3.below hb
          have x4 := x3.below hb
          refine hK.out _ _ ⟨hHeld.1.below hb, hHeld.2.1.below hb, hHeld.2.2.1.below hb, hHeld.2.2.2.below hb⟩ (fun hHeld => ?_)
          clear hK K hb hC3 y3 x3
          refine wpAnyH_ready (rs := [6]) (by kernel_rfl) (by simp) ?_
          refine AllReadyH.cons rfl (fun K hK => ?_) (AllReadyH.nil)
          rw [if_pos (by rfl)]
          refine wp_store_all 29 _ _ rfl (cells := (mbc X)) x4 rfl rfl sizeCt rfl (mbc_one _) ?_
          intro u27 hn hk
          have hC5 := hC4.trans (hk.below (by simp <;> omega) hC4.size)
          have y5 := y4.kp hk (by simp <;> omega)
          have x5 := hn
          refine hK.out _ _ ⟨hHeld.1.kp hk (by simp <;> omega), hHeld.2.1.kp hk (by simp <;> omega), hHeld.2.2.1.kp hk (by simp <;> omega), hHeld.2.2.2.kp hk (by simp <;> omega)⟩ (fun hHeld => ?_)
          clear hK K hk hn hC4 y4 x4
          try simp only [List.getElem_toArray]
          try simp only [List.getElem_cons_succ]
          try simp only [List.getElem_cons_zero]
          try simp only [Act.put]
          try simp only [List.setIfInBounds_toArray]
          try simp only [List.set_cons_succ]
          try simp only [List.set_cons_zero]
          refine wpAnyH_ready (rs := [7]) (by kernel_rfl) (by simp) ?_
          refine AllReadyH.cons rfl (fun K hK => ?_) (AllReadyH.nil)
          rw [if_pos (by rfl)]
          refine wp_store_all 29 _ _ rfl (cells := (mbc X)) y5 rfl rfl sizeCt rfl (mbc_one _) ?_
          intro u28 hn hk
          have hC6 := hC5.trans (hk.below (by simp <;> omega) hC5.size)
          have y6 := hn
          have x6 := x5.kp hk (by simp <;> omega)
          refine hK.out _ _ ⟨hHeld.1.kp hk (by simp <;> omega), hHeld.2.1.kp hk (by simp <;> omega), hHeld.2.2.1.kp hk (by simp <;> omega), hHeld.2.2.2.kp hk (by simp <;> omega)⟩ (fun hHeld => ?_)
          clear hK K hk hn hC5 y5 x5
          try simp only [List.getElem_toArray]
          try simp only [List.getElem_cons_succ]
          try simp only [List.getElem_cons_zero]
          try simp only [Act.put]
          try simp only [List.setIfInBounds_toArray]
          try simp only [List.set_cons_succ]
          try simp only [List.set_cons_zero]
          refine wpAnyH_done (by kernel_rfl) ?_ _
          go_wp2_with fail
          go_meet
          exact ⟨xp, yp, rfl, rfl, hHeld.1, hHeld.2.1, x6, y6, hC6⟩
    · rw [if_pos (by rfl)]
      refine wp_alloc_any zeroCt rfl ?_
      intro xp u29 x1 hb xl xt
      have xg := Nat.le_trans hC0.size xl
      have hC1 := hC0.trans (hb.mono hC0.size)
      refine hK.out _ _ ⟨hHeld.1.below hb, hHeld.2.1.below hb, hHeld.2.2.1.below hb, hHeld.2.2.2.below hb⟩ (fun hHeld => ?_)
      clear hK K hb hC0
      try simp only [List.getElem_toArray]
      try simp only [List.getElem_cons_succ]
      try simp only [List.getElem_cons_zero]
      try simp only [Act.put]
      try simp only [List.setIfInBounds_toArray]
      try simp only [List.set_cons_succ]
      try simp only [List.set_cons_zero]
      refine wpAnyH_ready (rs := [1, 5]) (by kernel_rfl) (by simp) ?_
      refine AllReadyH.cons rfl (fun K hK => ?_) (AllReadyH.cons rfl (fun K hK => ?_) (AllReadyH.nil))
      · go_simp
        go_wp2_with (refine (pA _).mono ?_; rintro r u30 ⟨rfl, hb⟩)
        have hC2 := hC1.trans (hb.mono hC1.size)
        have x2 := x1.below hb
        refine hK.out _ _ ⟨hHeld.1.below hb, hHeld.2.1.below hb, hHeld.2.2.1.below hb, hHeld.2.2.2.below hb⟩ (fun hHeld => ?_)
        clear hK K hb hC1 x1
        refine wpAnyH_ready (rs := [3, 5]) (by kernel_rfl) (by simp) ?_
        refine AllReadyH.cons rfl (fun K hK => ?_) (AllReadyH.cons rfl (fun K hK => ?_) (AllReadyH.nil))
        · go_simp
          go_wp2_with (refine (pB _).mono ?_; rintro r u31 ⟨rfl, hb⟩)
          have hC3 := hC2.trans (hb.mono hC2.size)
          have x3 := x2.below hb
          refine hK.out _ _ ⟨hHeld.1.below hb, hHeld.2.1.below hb, hHeld.2.2.1.below hb, hHeld.2.2.2.below hb⟩ (fun hHeld => ?_)
          clear hK K hb hC2 x2
          refine wpAnyH_ready (rs := [5]) (by kernel_rfl) (by simp) ?_
          refine AllReadyH.cons rfl (fun K hK => ?_) (AllReadyH.nil)
          rw [if_pos (by rfl)]
          refine wp_alloc_any zeroCt rfl ?_
          intro yp u32 y4 hb yl yt
          have xyn : xp < yp := Nat.lt_of_lt_of_le x3.lt yl
          have yg := Nat.le_trans hC3.size yl
          have hC4 := hC3.trans (hb.mono hC3.size)
          have x4 := x3.below hb
          refine hK.out _ _ ⟨hHeld.1.below hb, hHeld.2.1.below hb, hHeld.2.2.1.below hb, hHeld.2.2.2.below hb⟩ (fun hHeld => ?_)
          clear hK K hb hC3 x3
          try simp only [List.getElem_toArray]
          try simp only [List.getElem_cons_succ]
          try simp only [List.getElem_cons_zero]
          try simp only [Act.put]
          try simp only [List.setIfInBounds_toArray]
          try simp only [List.set_cons_succ]
          try simp only [List.set_cons_zero]
          refine wpAnyH_ready (rs := [6]) (by kernel_rfl) (by simp) ?_
          refine AllReadyH.cons rfl (fun K hK => ?_) (AllReadyH.nil)
          rw [if_pos (by rfl)]
          refine wp_store_all 29 _ _ rfl (cells := (mbc X)) x4 rfl rfl sizeCt rfl (mbc_one _) ?_
          intro u33 hn hk
          have hC5 := hC4.trans (hk.below (by simp <;> omega) hC4.size)
          have x5 := hn
          have y5 := y4.kp hk (by simp <;> omega)
          refine hK.out _ _ ⟨hHeld.1.kp hk (by simp <;> omega), hHeld.2.1.kp hk (by simp <;> omega), hHeld.2.2.1.kp hk (by simp <;> omega), hHeld.2.2.2.kp hk (by simp <;> omega)⟩ (fun hHeld => ?_)
          clear hK K hk hn hC4 x4 y4
          try simp only [List.getElem_toArray]
          try simp only [List.getElem_cons_succ]
          try simp only [List.getElem_cons_zero]
          try simp only [Act.put]
          try simp only [List.setIfInBounds_toArray]
          try simp only [List.set_cons_succ]
          try simp only [List.set_cons_zero]
          refine wpAnyH_ready (rs := [7]) (by kernel_rfl) (by simp) ?_
          refine AllReadyH.cons rfl (fun K hK => ?_) (AllReadyH.nil)
          rw [if_pos (by rfl)]
          refine wp_store_all 29 _ _ rfl (cells := (mbc X)) y5 rfl rfl sizeCt rfl (mbc_one _) ?_
          intro u34 hn hk
          have hC6 := hC5.trans (hk.below (by simp <;> omega) hC5.size)
          have x6 := x5.kp hk (by simp <;> omega)
          have y6 := hn
          refine hK.out _ _ ⟨hHeld.1.kp hk (by simp <;> omega), hHeld.2.1.kp hk (by simp <;> omega), hHeld.2.2.1.kp hk (by simp <;> omega), hHeld.2.2.2.kp hk (by simp <;> omega)⟩ (fun hHeld => ?_)
          clear hK K hk hn hC5 x5 y5
          try simp only [List.getElem_toArray]
          try simp only [List.getElem_cons_succ]
          try simp only [List.getElem_cons_zero]
          try simp only [Act.put]
          try simp only [List.setIfInBounds_toArray]
          try simp only [List.set_cons_succ]
          try simp only [List.set_cons_zero]
          refine wpAnyH_done (by kernel_rfl) ?_ _
          go_wp2_with fail
          go_meet
          exact ⟨xp, yp, rfl, rfl, hHeld.1, hHeld.2.1, x6, y6, hC6⟩
        · rw [if_pos (by rfl)]
          refine wp_alloc_any zeroCt rfl ?_
          intro yp u35 y3 hb yl yt
          have xyn : xp < yp := Nat.lt_of_lt_of_le x2.lt yl
          have yg := Nat.le_trans hC2.size yl
          have hC3 := hC2.trans (hb.mono hC2.size)
          have x3 := x2.below hb
          refine hK.out _ _ ⟨hHeld.1.below hb, hHeld.2.1.below hb, hHeld.2.2.1.below hb, hHeld.2.2.2.below hb⟩ (fun hHeld => ?_)
          clear hK K hb hC2 x2
          try simp only [List.getElem_toArray]
          try simp only [List.getElem_cons_succ]
          try simp only [List.getElem_cons_zero]
          try simp only [Act.put]
          try simp only [List.setIfInBounds_toArray]
          try simp only [List.set_cons_succ]
          try simp only [List.set_cons_zero]
          refine wpAnyH_ready (rs := [3]) (by kernel_rfl) (by simp) ?_
          refine AllReadyH.cons rfl (fun K hK => ?_) (AllReadyH.nil)
          go_simp
          go_wp2_with (refine (pB _).mono ?_; rintro r u36 ⟨rfl, hb⟩)
          have hC4 := hC3.trans (hb.mono hC3.size)
          have x4 := x3.below hb
          have y4 := y3.below hb
          refine hK.out _ _ ⟨hHeld.1.below hb, hHeld.2.1.below hb, hHeld.2.2.1.below hb, hHeld.2.2.2.below hb⟩ (fun hHeld => ?_)
          clear hK K hb hC3 x3 y3
          refine wpAnyH_ready (rs := [6]) (by kernel_rfl) (by simp) ?_
          refine AllReadyH.cons rfl (fun K hK => ?_) (AllReadyH.nil)
          rw [if_pos (by rfl)]
          refine wp_store_all 29 _ _ rfl (cells := (mbc X)) x4 rfl rfl sizeCt rfl (mbc_one _) ?_
          intro u37 hn hk
          have hC5 := hC4.trans (hk.below (by simp <;> omega) hC4.size)
          have x5 := hn
          have y5 := y4.kp hk (by simp <;> omega)
          refine hK.out _ _ ⟨hHeld.1.kp hk (by simp <;> omega), hHeld.2.1.kp hk (by simp <;> omega), hHeld.2.2.1.kp hk (by simp <;> omega), hHeld.2.2.2.kp hk (by simp <;> omega)⟩ (fun hHeld => ?_)
          clear hK K hk hn hC4 x4 y4
          try simp only [List.getElem_toArray]
          try simp only [List.getElem_cons_succ]
          try simp only [List.getElem_cons_zero]
          try simp only [Act.put]
          try simp only [List.setIfInBounds_toArray]
          try simp only [List.set_cons_succ]
          try simp only [List.set_cons_zero]
          refine wpAnyH_ready (rs := [7]) (by kernel_rfl) (by simp) ?_
          refine AllReadyH.cons rfl (fun K hK => ?_) (AllReadyH.nil)
          rw [if_pos (by rfl)]
          refine wp_store_all 29 _ _ rfl (cells := (mbc X)) y5 rfl rfl sizeCt rfl (mbc_one _) ?_
          intro u38 hn hk
          have hC6 := hC5.trans (hk.below (by simp <;> omega) hC5.size)
          have x6 := x5.kp hk (by simp <;> omega)
          have y6 := hn
          refine hK.out _ _ ⟨hHeld.1.kp hk (by simp <;> omega), hHeld.2.1.kp hk (by simp <;> omega), hHeld.2.2.1.kp hk (by simp <;> omega), hHeld.2.2.2.kp hk (by simp <;> omega)⟩ (fun hHeld => ?_)
          clear hK K hk hn hC5 x5 y5
          try simp only [List.getElem_toArray]
          try simp only [List.getElem_cons_succ]
          try simp only [List.getElem_cons_zero]
          try simp only [Act.put]
          try simp only [List.setIfInBounds_toArray]
          try simp only [List.set_cons_succ]
          try simp only [List.set_cons_zero]
          refine wpAnyH_done (by kernel_rfl) ?_ _
          go_wp2_with fail
          go_meet
          exact ⟨xp, yp, rfl, rfl, hHeld.1, hHeld.2.1, x6, y6, hC6⟩
      · rw [if_pos (by rfl)]
        refine wp_alloc_any zeroCt rfl ?_
        intro yp u39 y2 hb yl yt
        have xyn : xp < yp := Nat.lt_of_lt_of_le x1.lt yl
        have yg := Nat.le_trans hC1.size yl
        have hC2 := hC1.trans (hb.mono hC1.size)
        have x2 := x1.below hb
        refine hK.out _ _ ⟨hHeld.1.below hb, hHeld.2.1.below hb, hHeld.2.2.1.below hb, hHeld.2.2.2.below hb⟩ (fun hHeld => ?_)
        clear hK K hb hC1 x1
        try simp only [List.getElem_toArray]
        try simp only [List.getElem_cons_succ]
        try simp only [List.getElem_cons_zero]
        try simp only [Act.put]
        try simp only [List.setIfInBounds_toArray]
        try simp only [List.set_cons_succ]
        try simp only [List.set_cons_zero]
        refine wpAnyH_ready (rs := [1]) (by kernel_rfl) (by simp) ?_
        refine AllReadyH.cons rfl (fun K hK => ?_) (AllReadyH.nil)
        go_simp
        go_wp2_with (refine (pA _).mono ?_; rintro r u40 ⟨rfl, hb⟩)
        have hC3 := hC2.trans (hb.mono hC2.size)
        have x3 := x2.below hb
        have y3 := y2.below hb
        refine hK.out _ _ ⟨hHeld.1.below hb, hHeld.2.1.below hb, hHeld.2.2.1.below hb, hHeld.2.2.2.below hb⟩ (fun hHeld => ?_)
        clear hK K hb hC2 x2 y2
        refine wpAnyH_ready (rs := [3]) (by kernel_rfl) (by simp) ?_
        refine AllReadyH.cons rfl (fun K hK => ?_) (AllReadyH.nil)
        go_simp
        go_wp2_with (refine (pB _).mono ?_; rintro r u41 ⟨rfl, hb⟩)
        have hC4 := hC3.trans (hb.mono hC3.size)
        have x4 := x3.below hb
        have y4 := y3.below hb
        refine hK.out _ _ ⟨hHeld.1.below hb, hHeld.2.1.below hb, hHeld.2.2.1.below hb, hHeld.2.2.2.below hb⟩ (fun hHeld => ?_)
        clear hK K hb hC3 x3 y3
        refine wpAnyH_ready (rs := [6]) (by kernel_rfl) (by simp) ?_
        refine AllReadyH.cons rfl (fun K hK => ?_) (AllReadyH.nil)
        rw [if_pos (by rfl)]
        refine wp_store_all 29 _ _ rfl (cells := (mbc X)) x4 rfl rfl sizeCt rfl (mbc_one _) ?_
        intro u42 hn hk
        have hC5 := hC4.trans (hk.below (by simp <;> omega) hC4.size)
        have x5 := hn
        have y5 := y4.kp hk (by simp <;> omega)
        refine hK.out _ _ ⟨hHeld.1.kp hk (by simp <;> omega), hHeld.2.1.kp hk (by simp <;> omega), hHeld.2.2.1.kp hk (by simp <;> omega), hHeld.2.2.2.kp hk (by simp <;> omega)⟩ (fun hHeld => ?_)
        clear hK K hk hn hC4 x4 y4
        try simp only [List.getElem_toArray]
        try simp only [List.getElem_cons_succ]
        try simp only [List.getElem_cons_zero]
        try simp only [Act.put]
        try simp only [List.setIfInBounds_toArray]
        try simp only [List.set_cons_succ]
        try simp only [List.set_cons_zero]
        refine wpAnyH_ready (rs := [7]) (by kernel_rfl) (by simp) ?_
        refine AllReadyH.cons rfl (fun K hK => ?_) (AllReadyH.nil)
        rw [if_pos (by rfl)]
        refine wp_store_all 29 _ _ rfl (cells := (mbc X)) y5 rfl rfl sizeCt rfl (mbc_one _) ?_
        intro u43 hn hk
        have hC6 := hC5.trans (hk.below (by simp <;> omega) hC5.size)
        have x6 := x5.kp hk (by simp <;> omega)
        have y6 := hn
        refine hK.out _ _ ⟨hHeld.1.kp hk (by simp <;> omega), hHeld.2.1.kp hk (by simp <;> omega), hHeld.2.2.1.kp hk (by simp <;> omega), hHeld.2.2.2.kp hk (by simp <;> omega)⟩ (fun hHeld => ?_)
        clear hK K hk hn hC5 x5 y5
        try simp only [List.getElem_toArray]
        try simp only [List.getElem_cons_succ]
        try simp only [List.getElem_cons_zero]
        try simp only [Act.put]
        try simp only [List.setIfInBounds_toArray]
        try simp only [List.set_cons_succ]
        try simp only [List.set_cons_zero]
        refine wpAnyH_done (by kernel_rfl) ?_ _
        go_wp2_with fail
        go_meet
        exact ⟨xp, yp, rfl, rfl, hHeld.1, hHeld.2.1, x6, y6, hC6⟩
    · rw [if_pos (by rfl)]
      refine wp_alloc_any zeroCt rfl ?_
      intro yp u44 y1 hb yl yt
      have yg := Nat.le_trans hC0.size yl
      have hC1 := hC0.trans (hb.mono hC0.size)
      refine hK.out _ _ ⟨hHeld.1.below hb, hHeld.2.1.below hb, hHeld.2.2.1.below hb, hHeld.2.2.2.below hb⟩ (fun hHeld => ?_)
      clear hK K hb hC0
      try simp only [List.getElem_toArray]
      try simp only [List.getElem_cons_succ]
      try simp only [List.getElem_cons_zero]
      try simp only [Act.put]
      try simp only [List.setIfInBounds_toArray]
      try simp only [List.set_cons_succ]
      try simp only [List.set_cons_zero]
      refine wpAnyH_ready (rs := [1, 4]) (by kernel_rfl) (by simp) ?_
      refine AllReadyH.cons rfl (fun K hK => ?_) (AllReadyH.cons rfl (fun K hK => ?_) (AllReadyH.nil))
      · go_simp
        go_wp2_with (refine (pA _).mono ?_; rintro r u45 ⟨rfl, hb⟩)
        have hC2 := hC1.trans (hb.mono hC1.size)
        have y2 := y1.below hb
        refine hK.out _ _ ⟨hHeld.1.below hb, hHeld.2.1.below hb, hHeld.2.2.1.below hb, hHeld.2.2.2.below hb⟩ (fun hHeld => ?_)
        clear hK K hb hC1 y1
        refine wpAnyH_ready (rs := [3, 4]) (by kernel_rfl) (by simp) ?_
        refine AllReadyH.cons rfl (fun K hK => ?_) (AllReadyH.cons rfl (fun K hK => ?_) (AllReadyH.nil))
        · go_simp
          go_wp2_with (refine (pB _).mono ?_; rintro r u46 ⟨rfl, hb⟩)
          have hC3 := hC2.trans (hb.mono hC2.size)
          have y3 := y2.below hb
          refine hK.out _ _ ⟨hHeld.1.below hb, hHeld.2.1.below hb, hHeld.2.2.1.below hb, hHeld.2.2.2.below hb⟩ (fun hHeld => ?_)
          clear hK K hb hC2 y2
          refine wpAnyH_ready (rs := [4]) (by kernel_rfl) (by simp) ?_
          refine AllReadyH.cons rfl (fun K hK => ?_) (AllReadyH.nil)
          rw [if_pos (by rfl)]
          refine wp_alloc_any zeroCt rfl ?_
          intro xp u47 x4 hb xl xt
          have yxn : yp < xp := Nat.lt_of_lt_of_le y3.lt xl
          have xg := Nat.le_trans hC3.size xl
          have hC4 := hC3.trans (hb.mono hC3.size)
          have y4 := y3.below hb
          refine hK.out _ _ ⟨hHeld.1.below hb, hHeld.2.1.below hb, hHeld.2.2.1.below hb, hHeld.2.2.2.below hb⟩ (fun hHeld => ?_)
          clear hK K hb hC3 y3
          try simp only [List.getElem_toArray]
          try simp only [List.getElem_cons_succ]
          try simp only [List.getElem_cons_zero]
          try simp only [Act.put]
          try simp only [List.setIfInBounds_toArray]
          try simp only [List.set_cons_succ]
          try simp only [List.set_cons_zero]
          refine wpAnyH_ready (rs := [6]) (by kernel_rfl) (by simp) ?_
          refine AllReadyH.cons rfl (fun K hK => ?_) (AllReadyH.nil)
          rw [if_pos (by rfl)]
          refine wp_store_all 29 _ _ rfl (cells := (mbc X)) x4 rfl rfl sizeCt rfl (mbc_one _) ?_
          intro u48 hn hk
          have hC5 := hC4.trans (hk.below (by simp <;> omega) hC4.size)
          have y5 := y4.kp hk (by simp <;> omega)
          have x5 := hn
          refine hK.out _ _ ⟨hHeld.1.kp hk (by simp <;> omega), hHeld.2.1.kp hk (by simp <;> omega), hHeld.2.2.1.kp hk (by simp <;> omega), hHeld.2.2.2.kp hk (by simp <;> omega)⟩ (fun hHeld => ?_)
          clear hK K hk hn hC4 y4 x4
          try simp only [List.getElem_toArray]
          try simp only [List.getElem_cons_succ]
          try simp only [List.getElem_cons_zero]
          try simp only [Act.put]
          try simp only [List.setIfInBounds_toArray]
          try simp only [List.set_cons_succ]
          try simp only [List.set_cons_zero]
          refine wpAnyH_ready (rs := [7]) (by kernel_rfl) (by simp) ?_
          refine AllReadyH.cons rfl (fun K hK => ?_) (AllReadyH.nil)
          rw [if_pos (by rfl)]
          refine wp_store_all 29 _ _ rfl (cells := (mbc X)) y5 rfl rfl sizeCt rfl (mbc_one _) ?_
          intro u49 hn hk
          have hC6 := hC5.trans (hk.below (by simp <;> omega) hC5.size)
          have y6 := hn
          have x6 := x5.kp hk (by simp <;> omega)
          refine hK.out _ _ ⟨hHeld.1.kp hk (by simp <;> omega), hHeld.2.1.kp hk (by simp <;> omega), hHeld.2.2.1.kp hk (by simp <;> omega), hHeld.2.2.2.kp hk (by simp <;> omega)⟩ (fun hHeld => ?_)
          clear hK K hk hn hC5 y5 x5
          try simp only [List.getElem_toArray]
          try simp only [List.getElem_cons_succ]
          try simp only [List.getElem_cons_zero]
          try simp only [Act.put]
          try simp only [List.setIfInBounds_toArray]
          try simp only [List.set_cons_succ]
          try simp only [List.set_cons_zero]
          refine wpAnyH_done (by kernel_rfl) ?_ _
          go_wp2_with fail
          go_meet
          exact ⟨xp, yp, rfl, rfl, hHeld.1, hHeld.2.1, x6, y6, hC6⟩
        · rw [if_pos (by rfl)]
          refine wp_alloc_any zeroCt rfl ?_
          intro xp u50 x3 hb xl xt
          have yxn : yp < xp := Nat.lt_of_lt_of_le y2.lt xl
          have xg := Nat.le_trans hC2.size xl
          have hC3 := hC2.trans (hb.mono hC2.size)
          have y3 := y2.below hb
          refine hK.out _ _ ⟨hHeld.1.below hb, hHeld.2.1.below hb, hHeld.2.2.1.below hb, hHeld.2.2.2.below hb⟩ (fun hHeld => ?_)
          clear hK K hb hC2 y2
          try simp only [List.getElem_toArray]
          try simp only [List.getElem_cons_succ]
          try simp only [List.getElem_cons_zero]
          try simp only [Act.put]
          try simp only [List.setIfInBounds_toArray]
          try simp only [List.set_cons_succ]
          try simp only [List.set_cons_zero]
          refine wpAnyH_ready (rs := [3]) (by kernel_rfl) (by simp) ?_
          refine AllReadyH.cons rfl (fun K hK => ?_) (AllReadyH.nil)
          go_simp
          go_wp2_with (refine (pB _).mono ?_; rintro r u51 ⟨rfl, hb⟩)
          have hC4 := hC3.trans (hb.mono hC3.size)
          have y4 := y3.below hb
          have x4 := x3.below hb
          refine hK.out _ _ ⟨hHeld.1.below hb, hHeld.2.1.below hb, hHeld.2.2.1.below hb, hHeld.2.2.2.below hb⟩ (fun hHeld => ?_)
          clear hK K hb hC3 y3 x3
          refine wpAnyH_ready (rs := [6]) (by kernel_rfl) (by simp) ?_
          refine AllReadyH.cons rfl (fun K hK => ?_) (AllReadyH.nil)
          rw [if_pos (by rfl)]
          refine wp_store_all 29 _ _ rfl (cells := (mbc X)) x4 rfl rfl sizeCt rfl (mbc_one _) ?_
          intro u52 hn hk
          have hC5 := hC4.trans (hk.below (by simp <;> omega) hC4.size)
          have y5 := y4.kp hk (by simp <;> omega)
          have x5 := hn
          refine hK.out _ _ ⟨hHeld.1.kp hk (by simp <;> omega), hHeld.2.1.kp hk (by simp <;> omega), hHeld.2.2.1.kp hk (by simp <;> omega), hHeld.2.2.2.kp hk (by simp <;> omega)⟩ (fun hHeld => ?_)
          clear hK K hk hn hC4 y4 x4
          try simp only [List.getElem_toArray]
          try simp only [List.getElem_cons_succ]
          try simp only [List.getElem_cons_zero]
          try simp only [Act.put]
          try simp only [List.setIfInBounds_toArray]
          try simp only [List.set_cons_succ]
          try simp only [List.set_cons_zero]
          refine wpAnyH_ready (rs := [7]) (by kernel_rfl) (by simp) ?_
          refine AllReadyH.cons rfl (fun K hK => ?_) (AllReadyH.nil)
          rw [if_pos (by rfl)]
          refine wp_store_all 29 _ _ rfl (cells := (mbc X)) y5 rfl rfl sizeCt rfl (mbc_one _) ?_
          intro u53 hn hk
          have hC6 := hC5.trans (hk.below (by simp <;> omega) hC5.size)
          have y6 := hn
          have x6 := x5.kp hk (by simp <;> omega)
          refine hK.out _ _ ⟨hHeld.1.kp hk (by simp <;> omega), hHeld.2.1.kp hk (by simp <;> omega), hHeld.2.2.1.kp hk (by simp <;> omega), hHeld.2.2.2.kp hk (by simp <;> omega)⟩ (fun hHeld => ?_)
          clear hK K hk hn hC5 y5 x5
          try simp only [List.getElem_toArray]
          try simp only [List.getElem_cons_succ]
          try simp only [List.getElem_cons_zero]
          try simp only [Act.put]
          try simp only [List.setIfInBounds_toArray]
          try simp only [List.set_cons_succ]
          try simp only [List.set_cons_zero]
          refine wpAnyH_done (by kernel_rfl) ?_ _
          go_wp2_with fail
          go_meet
          exact ⟨xp, yp, rfl, rfl, hHeld.1, hHeld.2.1, x6, y6, hC6⟩
      · rw [if_pos (by rfl)]
        refine wp_alloc_any zeroCt rfl ?_
        intro xp u54 x2 hb xl xt
        have yxn : yp < xp := Nat.lt_of_lt_of_le y1.lt xl
        have xg := Nat.le_trans hC1.size xl
        have hC2 := hC1.trans (hb.mono hC1.size)
        have y2 := y1.below hb
        refine hK.out _ _ ⟨hHeld.1.below hb, hHeld.2.1.below hb, hHeld.2.2.1.below hb, hHeld.2.2.2.below hb⟩ (fun hHeld => ?_)
        clear hK K hb hC1 y1
        try simp only [List.getElem_toArray]
        try simp only [List.getElem_cons_succ]
        try simp only [List.getElem_cons_zero]
        try simp only [Act.put]
        try simp only [List.setIfInBounds_toArray]
        try simp only [List.set_cons_succ]
        try simp only [List.set_cons_zero]
        refine wpAnyH_ready (rs := [1]) (by kernel_rfl) (by simp) ?_
        refine AllReadyH.cons rfl (fun K hK => ?_) (AllReadyH.nil)
        go_simp
        go_wp2_with (refine (pA _).mono ?_; rintro r u55 ⟨rfl, hb⟩)
        have hC3 := hC2.trans (hb.mono hC2.size)
        have y3 := y2.below hb
        have x3 := x2.below hb
        refine hK.out _ _ ⟨hHeld.1.below hb, hHeld.2.1.below hb, hHeld.2.2.1.below hb, hHeld.2.2.2.below hb⟩ (fun hHeld => ?_)
        clear hK K hb hC2 y2 x2
        refine wpAnyH_ready (rs := [3]) (by kernel_rfl) (by simp) ?_
        refine AllReadyH.cons rfl (fun K hK => ?_) (AllReadyH.nil)
        go_simp
        go_wp2_with (refine (pB _).mono ?_; rintro r u56 ⟨rfl, hb⟩)
        have hC4 := hC3.trans (hb.mono hC3.size)
        have y4 := y3.below hb
        have x4 := x3.below hb
        refine hK.out _ _ ⟨hHeld.1.below hb, hHeld.2.1.below hb, hHeld.2.2.1.below hb, hHeld.2.2.2.below hb⟩ (fun hHeld => ?_)
        clear hK K hb hC3 y3 x3
        refine wpAnyH_ready (rs := [6]) (by kernel_rfl) (by simp) ?_
        refine AllReadyH.cons rfl (fun K hK => ?_) (AllReadyH.nil)
        rw [if_pos (by rfl)]
        refine wp_store_all 29 _ _ rfl (cells := (mbc X)) x4 rfl rfl sizeCt rfl (mbc_one _) ?_
        intro u57 hn hk
        have hC5 := hC4.trans (hk.below (by simp <;> omega) hC4.size)
        have y5 := y4.kp hk (by simp <;> omega)
        have x5 := hn
        refine hK.out _ _ ⟨hHeld.1.kp hk (by simp <;> omega), hHeld.2.1.kp hk (by simp <;> omega), hHeld.2.2.1.kp hk (by simp <;> omega), hHeld.2.2.2.kp hk (by simp <;> omega)⟩ (fun hHeld => ?_)
        clear hK K hk hn hC4 y4 x4
        try simp only [List.getElem_toArray]
        try simp only [List.getElem_cons_succ]
        try simp only [List.getElem_cons_zero]
        try simp only [Act.put]
        try simp only [List.setIfInBounds_toArray]
        try simp only [List.set_cons_succ]
        try simp only [List.set_cons_zero]
        refine wpAnyH_ready (rs := [7]) (by kernel_rfl) (by simp) ?_
        refine AllReadyH.cons rfl (fun K hK => ?_) (AllReadyH.nil)
        rw [if_pos (by rfl)]
        refine wp_store_all 29 _ _ rfl (cells := (mbc X)) y5 rfl rfl sizeCt rfl (mbc_one _) ?_
        intro u58 hn hk
        have hC6 := hC5.trans (hk.below (by simp <;> omega) hC5.size)
        have y6 := hn
        have x6 := x5.kp hk (by simp <;> omega)
        refine hK.out _ _ ⟨hHeld.1.kp hk (by simp <;> omega), hHeld.2.1.kp hk (by simp <;> omega), hHeld.2.2.1.kp hk (by simp <;> omega), hHeld.2.2.2.kp hk (by simp <;> omega)⟩ (fun hHeld => ?_)
        clear hK K hk hn hC5 y5 x5
        try simp only [List.getElem_toArray]
        try simp only [List.getElem_cons_succ]
        try simp only [List.getElem_cons_zero]
        try simp only [Act.put]
        try simp only [List.setIfInBounds_toArray]
        try simp only [List.set_cons_succ]
        try simp only [List.set_cons_zero]
        refine wpAnyH_done (by kernel_rfl) ?_ _
        go_wp2_with fail
        go_meet
        exact ⟨xp, yp, rfl, rfl, hHeld.1, hHeld.2.1, x6, y6, hC6⟩
  case rest =>
    obtain ⟨px, py, rfl, rfl, b0, b1, b2, b3, hC⟩ := hcut
    clear a0 a1 a2 a3 a4 a5 hC0 pA pB
    rename World => U
    replace hB := hB.trans (hC.mono hB.size)
    clear hC
    go_wp2_with fail
    go_loopw [13] (fun iv wr => ∃ i : Nat, i ≤ 8 ∧ iv = .int .i64 i ∧ Below U.heap.size U wr) (fun iv _ => 8 - (intOf iv).toNat)
    case atStart => exact ⟨0, by omega, rfl, Below.refl _ _⟩
    case round =>
      obtain ⟨i, hi8, rfl, hb⟩ := hrel
      by_cases hi : i < 8
      · have j0 : (i : Int) < 8 := by omega
        have j1 : (0 : Int) ≤ (i : Int) := by omega
        replace b0 := b0.below hb
        replace b1 := b1.below hb
        replace b2 := b2.below hb
        have hle := HX.out i
        have k1 : decide ((X i : Int) < (c.cut i : Int)) = false := by simp; omega
        have k2 : decide (X i < c.cut i) = false := by simp; omega
        have k3 : decide ((X i : Int) < (k i : Int)) = false := by simp; omega
        have k4 : decide (X i < k i) = false := by simp; omega
        have hC0 := hb.drew
        clear hle b3
        go_upto_region 15 with fail
        refine wp_region_held_drew (S := fun w' => Blk w.heap.size (coc c) 35 w' ∧ Blk (w.heap.size + 1) (mbc k) 29 w' ∧ Blk px (mbc X) 29 w') (by kernel_rfl) ⟨b0.drew, b1.drew, b2.drew⟩ (fun hHeld => ?_)
        refine wpAnyH_take (i := 0) (v := ?v12) rfl (by kernel_rfl) (by kernel_rfl) (by kernel_rfl) (fun _ _ _ h => h) (Or.inl ⟨by rfl, ?hy12⟩) hHeld ?rest12
        case hy12 => (intro w hSw; clear hSw; go_simp; try with_reducible rfl)
        try simp only [List.getElem_toArray]
        try simp only [List.getElem_cons_succ]
        try simp only [List.getElem_cons_zero]
        try simp only [Act.put]
        try simp only [List.setIfInBounds_toArray]
        try simp only [List.set_cons_succ]
        try simp only [List.set_cons_zero]
        refine wpAnyH_take (i := 1) (v := ?v13) rfl (by kernel_rfl) (by kernel_rfl) (by kernel_rfl) (fun _ _ _ h => h) (Or.inl ⟨by rfl, ?hy13⟩) hHeld ?rest13
        case hy13 => (intro w hSw; clear hSw; go_simp; try with_reducible rfl)
        try simp only [List.getElem_toArray]
        try simp only [List.getElem_cons_succ]
        try simp only [List.getElem_cons_zero]
        try simp only [Act.put]
        try simp only [List.setIfInBounds_toArray]
        try simp only [List.set_cons_succ]
        try simp only [List.set_cons_zero]
        refine wpAnyH_take (i := 2) (v := ?v14) rfl (by kernel_rfl) (by kernel_rfl) (by kernel_rfl) (fun _ _ _ h => h) (Or.inl ⟨by rfl, ?hy14⟩) hHeld ?rest14
        case hy14 => (intro w hSw; have hc := hSw.2.2.cell i _ (mbc_get X i hi); clear hSw; go_simp; try with_reducible rfl)
        try simp only [List.getElem_toArray]
        try simp only [List.getElem_cons_succ]
        try simp only [List.getElem_cons_zero]
        try simp only [Act.put]
        try simp only [List.setIfInBounds_toArray]
        try simp only [List.set_cons_succ]
        try simp only [List.set_cons_zero]
        refine wpAnyH_take (i := 3) (v := ?v15) rfl (by kernel_rfl) (by kernel_rfl) (by kernel_rfl) (fun _ _ _ h => h) (Or.inl ⟨by rfl, ?hy15⟩) hHeld ?rest15
        case hy15 => (intro w hSw; clear hSw; go_simp; try with_reducible rfl)
        try simp only [List.getElem_toArray]
        try simp only [List.getElem_cons_succ]
        try simp only [List.getElem_cons_zero]
        try simp only [Act.put]
        try simp only [List.setIfInBounds_toArray]
        try simp only [List.set_cons_succ]
        try simp only [List.set_cons_zero]
        refine wpAnyH_take (i := 4) (v := ?v16) rfl (by kernel_rfl) (by kernel_rfl) (by kernel_rfl) (fun _ _ _ h => h) (Or.inl ⟨by rfl, ?hy16⟩) hHeld ?rest16
        case hy16 => (intro w hSw; clear hSw; go_simp; try with_reducible rfl)
        try simp only [List.getElem_toArray]
        try simp only [List.getElem_cons_succ]
        try simp only [List.getElem_cons_zero]
        try simp only [Act.put]
        try simp only [List.setIfInBounds_toArray]
        try simp only [List.set_cons_succ]
        try simp only [List.set_cons_zero]
        refine wpAnyH_take (i := 5) (v := ?v17) rfl (by kernel_rfl) (by kernel_rfl) (by kernel_rfl) (fun _ _ _ h => h) (Or.inl ⟨by rfl, ?hy17⟩) hHeld ?rest17
        case hy17 => (intro w hSw; clear hSw; go_simp; try with_reducible rfl)
        try simp only [List.getElem_toArray]
        try simp only [List.getElem_cons_succ]
        try simp only [List.getElem_cons_zero]
        try simp only [Act.put]
        try simp only [List.setIfInBounds_toArray]
        try simp only [List.set_cons_succ]
        try simp only [List.set_cons_zero]
        refine wpAnyH_take (i := 6) (v := ?v18) rfl (by kernel_rfl) (by kernel_rfl) (by kernel_rfl) (fun _ _ _ h => h) (Or.inl ⟨by rfl, ?hy18⟩) hHeld ?rest18
        case hy18 => (intro w hSw; have hc := hSw.1.cell (51 + i) _ (c.get_cut i hi); clear hSw; go_simp; try with_reducible rfl)
        try simp only [List.getElem_toArray]
        try simp only [List.getElem_cons_succ]
        try simp only [List.getElem_cons_zero]
        try simp only [Act.put]
        try simp only [List.setIfInBounds_toArray]
        try simp only [List.set_cons_succ]
        try simp only [List.set_cons_zero]
        refine wpAnyH_take (i := 7) (v := ?v19) rfl (by kernel_rfl) (by kernel_rfl) (by kernel_rfl) (fun _ _ _ h => h) (Or.inl ⟨by rfl, ?hy19⟩) hHeld ?rest19
        case hy19 => (intro w hSw; clear hSw; go_simp; try with_reducible rfl)
        try simp only [List.getElem_toArray]
        try simp only [List.getElem_cons_succ]
        try simp only [List.getElem_cons_zero]
        try simp only [Act.put]
        try simp only [List.setIfInBounds_toArray]
        try simp only [List.set_cons_succ]
        try simp only [List.set_cons_zero]
        refine wpAnyH_take (i := 8) (v := ?v20) rfl (by kernel_rfl) (by kernel_rfl) (by kernel_rfl) (fun _ _ _ h => h) (Or.inl ⟨by rfl, ?hy20⟩) hHeld ?rest20
        case hy20 => (intro w hSw; clear hSw; go_simp; try with_reducible rfl)
        try simp only [List.getElem_toArray]
        try simp only [List.getElem_cons_succ]
        try simp only [List.getElem_cons_zero]
        try simp only [Act.put]
        try simp only [List.setIfInBounds_toArray]
        try simp only [List.set_cons_succ]
        try simp only [List.set_cons_zero]
        refine wpAnyH_take (i := 9) (v := ?v21) rfl (by kernel_rfl) (by kernel_rfl) (by kernel_rfl) (fun _ _ _ h => h) (Or.inl ⟨by rfl, ?hy21⟩) hHeld ?rest21
        case hy21 => (intro w hSw; clear hSw; go_simp; try with_reducible rfl)
        try simp only [List.getElem_toArray]
        try simp only [List.getElem_cons_succ]
        try simp only [List.getElem_cons_zero]
        try simp only [Act.put]
        try simp only [List.setIfInBounds_toArray]
        try simp only [List.set_cons_succ]
        try simp only [List.set_cons_zero]
        refine wpAnyH_take (i := 10) (v := ?v22) rfl (by kernel_rfl) (by kernel_rfl) (by kernel_rfl) (fun _ _ _ h => h) (Or.inl ⟨by rfl, ?hy22⟩) hHeld ?rest22
        case hy22 => (intro w hSw; clear hSw; go_simp; try with_reducible rfl)
        try simp only [List.getElem_toArray]
        try simp only [List.getElem_cons_succ]
        try simp only [List.getElem_cons_zero]
        try simp only [Act.put]
        try simp only [List.setIfInBounds_toArray]
        try simp only [List.set_cons_succ]
        try simp only [List.set_cons_zero]
        refine wpAnyH_take (i := 11) (v := ?v23) rfl (by kernel_rfl) (by kernel_rfl) (by kernel_rfl) (fun _ _ _ h => h) (Or.inl ⟨by rfl, ?hy23⟩) hHeld ?rest23
        case hy23 => (intro w hSw; have hc := hSw.2.2.cell i _ (mbc_get X i hi); clear hSw; go_simp; try with_reducible rfl)
        try simp only [List.getElem_toArray]
        try simp only [List.getElem_cons_succ]
        try simp only [List.getElem_cons_zero]
        try simp only [Act.put]
        try simp only [List.setIfInBounds_toArray]
        try simp only [List.set_cons_succ]
        try simp only [List.set_cons_zero]
        refine wpAnyH_take (i := 12) (v := ?v24) rfl (by kernel_rfl) (by kernel_rfl) (by kernel_rfl) (fun _ _ _ h => h) (Or.inl ⟨by rfl, ?hy24⟩) hHeld ?rest24
        case hy24 => (intro w hSw; clear hSw; go_simp; try with_reducible rfl)
        try simp only [List.getElem_toArray]
        try simp only [List.getElem_cons_succ]
        try simp only [List.getElem_cons_zero]
        try simp only [Act.put]
        try simp only [List.setIfInBounds_toArray]
        try simp only [List.set_cons_succ]
        try simp only [List.set_cons_zero]
        refine wpAnyH_take (i := 13) (v := ?v25) rfl (by kernel_rfl) (by kernel_rfl) (by kernel_rfl) (fun _ _ _ h => h) (Or.inl ⟨by rfl, ?hy25⟩) hHeld ?rest25
        case hy25 => (intro w hSw; clear hSw; go_simp; try with_reducible rfl)
        try simp only [List.getElem_toArray]
        try simp only [List.getElem_cons_succ]
        try simp only [List.getElem_cons_zero]
        try simp only [Act.put]
        try simp only [List.setIfInBounds_toArray]
        try simp only [List.set_cons_succ]
        try simp only [List.set_cons_zero]
        refine wpAnyH_take (i := 14) (v := ?v26) rfl (by kernel_rfl) (by kernel_rfl) (by kernel_rfl) (fun _ _ _ h => h) (Or.inl ⟨by rfl, ?hy26⟩) hHeld ?rest26
        case hy26 => (intro w hSw; have hc := hSw.2.1.cell i _ (mbc_get k i hi); clear hSw; go_simp; try with_reducible rfl)
        try simp only [List.getElem_toArray]
        try simp only [List.getElem_cons_succ]
        try simp only [List.getElem_cons_zero]
        try simp only [Act.put]
        try simp only [List.setIfInBounds_toArray]
        try simp only [List.set_cons_succ]
        try simp only [List.set_cons_zero]
        refine wpAnyH_take (i := 15) (v := ?v27) rfl (by kernel_rfl) (by kernel_rfl) (by kernel_rfl) (fun _ _ _ h => h) (Or.inl ⟨by rfl, ?hy27⟩) hHeld ?rest27
        case hy27 => (intro w hSw; clear hSw; go_simp; try with_reducible rfl)
        try simp only [List.getElem_toArray]
        try simp only [List.getElem_cons_succ]
        try simp only [List.getElem_cons_zero]
        try simp only [Act.put]
        try simp only [List.setIfInBounds_toArray]
        try simp only [List.set_cons_succ]
        try simp only [List.set_cons_zero]
        refine wpAnyH_take (i := 16) (v := ?v28) rfl (by kernel_rfl) (by kernel_rfl) (by kernel_rfl) (fun _ _ _ h => h) (Or.inl ⟨by rfl, ?hy28⟩) hHeld ?rest28
        case hy28 => (intro w hSw; clear hSw; go_simp; try with_reducible rfl)
        try simp only [List.getElem_toArray]
        try simp only [List.getElem_cons_succ]
        try simp only [List.getElem_cons_zero]
        try simp only [Act.put]
        try simp only [List.setIfInBounds_toArray]
        try simp only [List.set_cons_succ]
        try simp only [List.set_cons_zero]
        refine wpAnyH_done (by kernel_rfl) ?_ _
        clear hHeld
        go_wp2_with fail
        exact ⟨⟨i + 1, by omega, by go_num, hC0⟩, by simp [intOf]; omega⟩
      · obtain rfl : i = 8 := by omega
        replace b2 := b2.below hb
        replace b3 := b3.below hb
        replace hB := hB.trans (hb.mono hB.size)
        have kX := eqlCt X X true (mbSame_self X)
        clear hb b0 b1
        go_wp2_with (first | refine load_blk rfl 29 _ rfl b2 rfl Try.underlying29 rfl sizeCt ?_ | refine load_blk rfl 29 _ rfl b3 rfl Try.underlying29 rfl sizeCt ?_)
        go_ret
        exact ⟨rfl, hB⟩

set_option maxRecDepth 100000 in
theorem lifted (os : Go.Os) (started : os.Started) (H : Type) (enc : TypeId × Value → H) :
    ReturnsInHanded {} Try.checked os 6 .any (Rows.gatherSameSpec.pre6 enc Try.prog Try.f6 Rows.gatherSameRow.domain false) (Rows.gatherSameSpec.post enc Try.prog Try.f6 false true false false) := by
  refine returnsInHanded_of_change_sized (C := Try.checked) own started (by kernel_rfl) Try.func6
    (ChangeSpec.witness6 (enc := enc) (C := Try.checked) false ⟨#[], #[.agg (coc Co.zero), .int .i64 0, .agg (mbc noMb)], []⟩ 8 (by kernel_rfl) (by kernel_rfl) (by kernel_rfl) (by kernel_rfl)) ?_
  intro W base args ds gs before hval0 hW hcnd hsz0 _
  have hval : ∀ (j : Nat) t v, Try.f6.params[j]? = some t → args[j]? = some v → Value.okWide Try.prog W .any base t v := hval0
  have hsz : (DataW.weightsEach Try.prog (Try.f6.params.toList ++ Rows.gatherSameSpec.plain.varTypes Try.prog) (ds ++ gs)).all (· ≤ reachBytes) = true := hsz0
  have hW' := hW
  obtain ⟨p, q, hA0, hV, rfl, hfz, hnd⟩ := hW
  have hA : DataW.TrodAll enc Try.prog W 0 (fun _ => true) true Try.f6.params.toList args.toList ds p := hA0
  rw [Try.params6] at hA hval hsz

  obtain ⟨v0, vs0, d0, ds0, p0, q0, hargs, rfl, rfl, h0, r0⟩ := trodAll_cons hA
  obtain ⟨v1, vs1, d1, ds1, p1, q1, rfl, rfl, rfl, h1, r1⟩ := trodAll_cons r0
  obtain ⟨v2, vs2, d2, ds2, p2, q2, rfl, rfl, rfl, h2, r2⟩ := trodAll_cons r1
  obtain ⟨rfl, rfl, rfl⟩ := trodAll_nil r2
  obtain rfl : args = #[v0, v1, v2] := by cases args; simp_all
  obtain ⟨rfl, rfl⟩ := trodVars_none hV
  obtain ⟨c0, L0, rfl, kf0, kn0, kl0, hS0⟩ := open_core (by obtain ⟨cs, h1, _⟩ := okWide_struct Try.underlying35 (hval 0 35 v0 rfl rfl); exact ⟨cs, h1⟩) (fun n hn => of_decide_eq_true (List.all_eq_true.1 hsz _ (DataW.weights_mem_each (j := 0) rfl rfl n hn))) h0
  obtain ⟨a1, rfl, rfl, rfl, w1⟩ := open_int Try.underlying3 (hval 1 3 v1 rfl rfl) h1
  obtain ⟨c2, rfl, kc2⟩ := open_ct (by obtain ⟨cs, h1, _⟩ := (by simpa only [Value.okWide, Try.underlying29] using hval 2 29 v2 rfl rfl : ∃ cs, v2 = .agg cs ∧ _); exact ⟨cs, h1⟩) h2
  have hA2 := hA0
  clear hA0 hval0 hsz0
  simp only [List.append_nil] at hW'
  refine (walk c0 kf0 a1 w1 c2 kc2 W).mono fun e W' ⟨he, bel⟩ => ?_
  subst he
  exact ⟨_, rfl, _, _, _, [], _, [], hW', trodAll_mk1 (shut_bool Try.underlying4 _), (stays_all laidOut bel (by kernel_rfl) hA2), rfl, bel.frame _, fun h => by cases h⟩

theorem over : Rows.gatherSameRow.holds Try.pinned (OpenSpec.ofChange Rows.gatherSameSpec) :=
  OpenClaim.holds_of_wide 6 Try.f6 rfl rfl rfl rfl rfl rfl rfl ⟨rfl, rfl, rfl, rfl, rfl⟩ rfl rfl rfl rfl rfl (by kernel_rfl) Try.func6 (by kernel_rfl)
    (of_decide_eq_true (by kernel_rfl)) (by unfold Func.isWrapper; first | (rw [if_pos (by decide +kernel)]; kernel_rfl) | (rw [if_neg (by decide +kernel)]; exact ⟨rfl, rfl⟩))
    (fun os started H enc _ => lifted os started H enc)

end Go.Proofs.Ytbmhfnallpcmpaa.gatherSame
namespace Go.Proofs.Ytbmhfnallpcmpaa

theorem gatherSame_holds : Rows.GatherSameSaid := gatherSame.over
#print axioms gatherSame_holds

end Go.Proofs.Ytbmhfnallpcmpaa
