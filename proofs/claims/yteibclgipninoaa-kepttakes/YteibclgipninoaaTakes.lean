/-
  What is kept behind any frame, whose any frame is, and which one a number names, is as the document says: the law KeptTakes returns true for every input.
  No condition beyond the form's own.
-/
import Derived.Test.YteibclgipninoaaRows
import Derived.Test.YteibclgipninoaaKtL
import Derived.Test.YteibclgipninoaaPq
import Derived.WalkKit
import Derived.ProofKit
import Derived.OpenShut
import Derived.ShutString
import Derived.SizedLaws
import Derived.ChangeOld
import Derived.Below
namespace Go.Proofs.Yteibclgipninoaa.keptTakes
open Go.Sort Go.ChangeShapes Go.WideShapes Go.ChangeAt Go.RowKit
open Go.ChangeMaps (open_string shut_string)
set_option linter.unusedVariables false
set_option maxRecDepth 10000

theorem own : ownKnob Try.prog.godebug = none := by kernel_rfl
theorem length_bytes (s : ByteArray) : s.data.toList.length = s.size := by rw [Array.length_toList]; rfl

set_option maxHeartbeats 8000000 in
theorem walk (la : Option Addr) (L : List Kt) (lk : Nat) (c m : Nat → Nat) (hz : L.length * 352 ≤ 140737488351232) (hc : ∀ i, c i < 4294967296) (x : Kt) (v : Int) (hv : (Lit.int .u32 v).wf = true) (w : World) (lS : Li Kt.vals 0 la L w) :
    Calls Try.prog 3 #[.agg (wsc (.slice la L.length lk) c m), .agg x.arr, .int .u32 v] w fun e w' => e = .returned (.bool true) ∧ Below w.heap.size w w' := by
  obtain ⟨v, rfl, hv32⟩ : ∃ k : Nat, v = (k : Int) ∧ k < 4294967296 := by
    have hb := bounds_u32 hv
    exact ⟨v.toNat, by omega, by omega⟩
  clear hv
  have lm : L.length ≤ 9223372036854775807 := by omega
  have pT := take_ok L la lk c m x hc (by omega)
  have pR := rtake_ok L la lk c m x hc (by omega)
  have pG := get_ok L la lk x.fr x.rd lm
  have pH := rget_ok L la lk x.fr x.rd lm
  have pP := pick_ok L la lk v hv32 lm
  have pQ := rpick_ok L la lk v hv32 lm
  have lm2 := takeK_len L c m x
  replace lm2 : (takeK L c m x).length ≤ 9223372036854775807 := by omega
  unfold Took at pT pR
  generalize takeK L c m x = L2 at pT pR lm2
  generalize takeKC c m x = C at pT pR
  generalize takesB c m x = tb at pT pR
  generalize gotF (getK x.fr x.rd L) = G at pG pH
  generalize (getK x.fr x.rd L).isSome = gb at pG pH
  generalize pickK L v = P at pP pQ
  generalize (!L.isEmpty) = pb at pP pQ
  have e1 := eqlCt C C true (mbSame_self C)
  have e2 := eqlFr G
  have e3 := eqlKt P
  obtain ⟨a0, a1, hB⟩ := two_blk (T0 := 28) (T1 := 36) (C0 := (wsc (.slice la L.length lk) c m)) (C1 := x.arr) (w := w) rfl
  go_enter Try.func3, Try.ntmps3
  go_upto_region 1 with fail
  generalize (w.alloc (Obj.cells (wsc (.slice la L.length lk) c m) 28)).alloc (Obj.cells x.arr 36) = W at a0 a1 hB ⊢
  have c0 : W.cell? ⟨w.heap.size, 0, none⟩ = some (.slice la L.length lk) := a0.cell 0 _ rfl
  have c1 := a1.cell 0 _ x.get0
  have c2 := a1.cell 1 _ x.get1
  go_wp2_with (first | refine load_part rfl 25 _ rfl (o := 1) a0 rfl (row8 c) (wsc_c _ _ _) Try.underlying25 rfl sizeCt ?_ | refine load_part rfl 26 _ rfl (o := 9) a0 rfl (row8 m) (wsc_m _ _ _) Try.underlying26 rfl sizeMb ?_ | refine load_blk rfl 36 _ rfl a1 rfl Try.underlying36 rfl sizeKt ?_)
  refine (pT _ (lS.below hB)).mono ?_
  rintro r w1 ⟨⟨ra, rk, rfl, rl⟩, hb⟩
  replace a0 := a0.below hb
  replace a1 := a1.below hb
  replace hB := hB.trans (hb.mono hB.size)
  clear hb
  clear c0 c1 c2
  have hb := below_box w1 (.cells (mbc C) 25)
  have d1 := blk_new w1 (mbc C) 25
  go_upto_region 2 with (first | refine alloc_zero zeroCt rfl rfl ?_ | refine store_new rfl 25 _ _ rfl (cells := (mbc C)) rfl rfl sizeCt rfl (mbc_one _) ?_)
  try simp only [Act.put]
  generalize w1.alloc (Obj.cells (mbc C) 25) = V1 at d1 hb ⊢
  replace a0 := a0.below hb
  replace a1 := a1.below hb
  replace rl := rl.below hb
  replace hB := hB.trans (hb.mono hB.size)
  clear hb
  have c0 : V1.cell? ⟨w.heap.size, 0, none⟩ = some (.slice la L.length lk) := a0.cell 0 _ rfl
  have c1 := a1.cell 0 _ x.get0
  have c2 := a1.cell 1 _ x.get1
  go_wp2_with (first | refine load_part rfl 25 _ rfl (o := 1) a0 rfl (row8 c) (wsc_c _ _ _) Try.underlying25 rfl sizeCt ?_ | refine load_part rfl 26 _ rfl (o := 9) a0 rfl (row8 m) (wsc_m _ _ _) Try.underlying26 rfl sizeMb ?_ | refine load_blk rfl 36 _ rfl a1 rfl Try.underlying36 rfl sizeKt ?_)
  refine (pR _ (lS.below hB)).mono ?_
  rintro r w2 ⟨⟨qa, qk, rfl, ql⟩, hb⟩
  replace a0 := a0.below hb
  replace a1 := a1.below hb
  replace rl := rl.below hb
  replace d1 := d1.below hb
  replace hB := hB.trans (hb.mono hB.size)
  clear hb
  clear c0 c1 c2
  have hb := below_box w2 (.cells (mbc C) 25)
  have d2 := blk_new w2 (mbc C) 25
  go_upto_region 3 with (first | refine alloc_zero zeroCt rfl rfl ?_ | refine store_new rfl 25 _ _ rfl (cells := (mbc C)) rfl rfl sizeCt rfl (mbc_one _) ?_)
  try simp only [Act.put]
  generalize w2.alloc (Obj.cells (mbc C) 25) = V2 at d2 hb ⊢
  replace a0 := a0.below hb
  replace a1 := a1.below hb
  replace rl := rl.below hb
  replace d1 := d1.below hb
  replace ql := ql.below hb
  replace hB := hB.trans (hb.mono hB.size)
  clear hb
  have c0 : V2.cell? ⟨w.heap.size, 0, none⟩ = some (.slice la L.length lk) := a0.cell 0 _ rfl
  have c1 := a1.cell 0 _ x.get0
  have c2 := a1.cell 1 _ x.get1
  go_wp2_with fail
  refine (pG _ (lS.below hB)).mono ?_
  rintro r w3 ⟨rfl, hb⟩
  replace a0 := a0.below hb
  replace a1 := a1.below hb
  replace rl := rl.below hb
  replace d1 := d1.below hb
  replace ql := ql.below hb
  replace d2 := d2.below hb
  replace hB := hB.trans (hb.mono hB.size)
  clear hb
  clear c0 c1 c2
  have hb := below_box w3 (.cells (frc G) 34)
  have d3 := blk_new w3 (frc G) 34
  go_upto_region 4 with (first | refine alloc_zero zeroFr rfl rfl ?_ | refine store_new rfl 34 _ _ rfl (cells := (frc G)) rfl rfl sizeFr rfl (frc_one _) ?_)
  try simp only [Act.put]
  generalize w3.alloc (Obj.cells (frc G) 34) = V3 at d3 hb ⊢
  replace a0 := a0.below hb
  replace a1 := a1.below hb
  replace rl := rl.below hb
  replace d1 := d1.below hb
  replace ql := ql.below hb
  replace d2 := d2.below hb
  replace hB := hB.trans (hb.mono hB.size)
  clear hb
  have c0 : V3.cell? ⟨w.heap.size, 0, none⟩ = some (.slice la L.length lk) := a0.cell 0 _ rfl
  have c1 := a1.cell 0 _ x.get0
  have c2 := a1.cell 1 _ x.get1
  go_wp2_with fail
  refine (pH _ (lS.below hB)).mono ?_
  rintro r w4 ⟨rfl, hb⟩
  replace a0 := a0.below hb
  replace a1 := a1.below hb
  replace rl := rl.below hb
  replace d1 := d1.below hb
  replace ql := ql.below hb
  replace d2 := d2.below hb
  replace d3 := d3.below hb
  replace hB := hB.trans (hb.mono hB.size)
  clear hb
  clear c0 c1 c2
  have hb := below_box w4 (.cells (frc G) 34)
  have d4 := blk_new w4 (frc G) 34
  go_upto_region 5 with (first | refine alloc_zero zeroFr rfl rfl ?_ | refine store_new rfl 34 _ _ rfl (cells := (frc G)) rfl rfl sizeFr rfl (frc_one _) ?_)
  try simp only [Act.put]
  generalize w4.alloc (Obj.cells (frc G) 34) = V4 at d4 hb ⊢
  replace a0 := a0.below hb
  replace a1 := a1.below hb
  replace rl := rl.below hb
  replace d1 := d1.below hb
  replace ql := ql.below hb
  replace d2 := d2.below hb
  replace d3 := d3.below hb
  replace hB := hB.trans (hb.mono hB.size)
  clear hb
  have c0 : V4.cell? ⟨w.heap.size, 0, none⟩ = some (.slice la L.length lk) := a0.cell 0 _ rfl
  have c1 := a1.cell 0 _ x.get0
  have c2 := a1.cell 1 _ x.get1
  go_wp2_with fail
  refine (pP _ (lS.below hB)).mono ?_
  rintro r w5 ⟨rfl, hb⟩
  replace a0 := a0.below hb
  replace a1 := a1.below hb
  replace rl := rl.below hb
  replace d1 := d1.below hb
  replace ql := ql.below hb
  replace d2 := d2.below hb
  replace d3 := d3.below hb
  replace d4 := d4.below hb
  replace hB := hB.trans (hb.mono hB.size)
  clear hb
  clear c0 c1 c2
  have hb := below_box w5 (.cells P.arr 36)
  have d5 := blk_new w5 P.arr 36
  go_upto_region 6 with (first | refine alloc_zero zeroKt rfl rfl ?_ | refine store_new rfl 36 _ _ rfl (cells := P.arr) rfl rfl sizeKt rfl (Kt.arr_one _) ?_)
  try simp only [Act.put]
  generalize w5.alloc (Obj.cells P.arr 36) = V5 at d5 hb ⊢
  replace a0 := a0.below hb
  replace a1 := a1.below hb
  replace rl := rl.below hb
  replace d1 := d1.below hb
  replace ql := ql.below hb
  replace d2 := d2.below hb
  replace d3 := d3.below hb
  replace d4 := d4.below hb
  replace hB := hB.trans (hb.mono hB.size)
  clear hb
  have c0 : V5.cell? ⟨w.heap.size, 0, none⟩ = some (.slice la L.length lk) := a0.cell 0 _ rfl
  have c1 := a1.cell 0 _ x.get0
  have c2 := a1.cell 1 _ x.get1
  go_wp2_with fail
  refine (pQ _ (lS.below hB)).mono ?_
  rintro r w6 ⟨rfl, hb⟩
  replace a0 := a0.below hb
  replace a1 := a1.below hb
  replace rl := rl.below hb
  replace d1 := d1.below hb
  replace ql := ql.below hb
  replace d2 := d2.below hb
  replace d3 := d3.below hb
  replace d4 := d4.below hb
  replace d5 := d5.below hb
  replace hB := hB.trans (hb.mono hB.size)
  clear hb
  clear c0 c1 c2
  have hb := below_box w6 (.cells P.arr 36)
  have d6 := blk_new w6 P.arr 36
  go_upto_region 7 with (first | refine alloc_zero zeroKt rfl rfl ?_ | refine store_new rfl 36 _ _ rfl (cells := P.arr) rfl rfl sizeKt rfl (Kt.arr_one _) ?_)
  try simp only [Act.put]
  generalize w6.alloc (Obj.cells P.arr 36) = V6 at d6 hb ⊢
  replace a0 := a0.below hb
  replace a1 := a1.below hb
  replace rl := rl.below hb
  replace d1 := d1.below hb
  replace ql := ql.below hb
  replace d2 := d2.below hb
  replace d3 := d3.below hb
  replace d4 := d4.below hb
  replace d5 := d5.below hb
  replace hB := hB.trans (hb.mono hB.size)
  clear hb
  clear pT pR pG pH pP pQ a0 a1
  go_wp2_with fail
  refine (fixed_ok _).mono ?_
  rintro r w7 ⟨rfl, hb⟩
  replace rl := rl.below hb
  replace d1 := d1.below hb
  replace ql := ql.below hb
  replace d2 := d2.below hb
  replace d3 := d3.below hb
  replace d4 := d4.below hb
  replace d5 := d5.below hb
  replace d6 := d6.below hb
  replace hB := hB.trans (hb.mono hB.size)
  clear hb
  go_wp2_with fail
  refine (rsame_ok L2 ra qa rk qk lm2 _ (rl.mono (Nat.zero_le _)) ql).mono ?_
  rintro r w8 ⟨rfl, hb⟩
  replace rl := rl.below hb
  replace d1 := d1.below hb
  replace ql := ql.below hb
  replace d2 := d2.below hb
  replace d3 := d3.below hb
  replace d4 := d4.below hb
  replace d5 := d5.below hb
  replace d6 := d6.below hb
  replace hB := hB.trans (hb.mono hB.size)
  clear hb
  clear rl ql
  go_wp2_with (first | refine load_want rfl 25 _ rfl d1 rfl Try.underlying25 rfl sizeCt ?_ | refine load_want rfl 25 _ rfl d2 rfl Try.underlying25 rfl sizeCt ?_ | refine load_want rfl 34 _ rfl d3 rfl Try.underlying34 rfl sizeFr ?_ | refine load_want rfl 34 _ rfl d4 rfl Try.underlying34 rfl sizeFr ?_ | refine load_want rfl 36 _ rfl d5 rfl Try.underlying36 rfl sizeKt ?_ | refine load_want rfl 36 _ rfl d6 rfl Try.underlying36 rfl sizeKt ?_)
  go_ret
  exact ⟨rfl, hB⟩

set_option maxRecDepth 100000 in
theorem lifted (os : Os) (started : os.Started) (H : Type) (enc : TypeId × Value → H) :
    ReturnsInHanded {} Try.checked os 3 .any (Rows.keptTakesSpec.pre6 enc Try.prog Try.f3 Rows.keptTakesRow.domain false) (Rows.keptTakesSpec.post enc Try.prog Try.f3 false true false false) := by
  refine returnsInHanded_of_change_sized (C := Try.checked) own started (by kernel_rfl) Try.func3
    (ChangeSpec.witness6 (enc := enc) (C := Try.checked) false ⟨#[], #[.agg (wsc (.slice none 0 0) noMb noMb), .agg Kt.zero.arr, .int .u32 0], []⟩ 8 (by kernel_rfl) (by kernel_rfl) (by kernel_rfl) (by kernel_rfl)) ?_
  intro W base args ds gs before hval0 hW hcnd hsz0 _
  have hval : ∀ (j : Nat) t v, Try.f3.params[j]? = some t → args[j]? = some v → Value.okWide Try.prog W .any base t v := hval0
  have hsz : (DataW.weightsEach Try.prog (Try.f3.params.toList ++ Rows.keptTakesSpec.plain.varTypes Try.prog) (ds ++ gs)).all (· ≤ reachBytes) = true := hsz0
  have hW' := hW
  obtain ⟨p, q, hA0, hV, rfl, hfz, hnd⟩ := hW
  have hA : DataW.TrodAll enc Try.prog W 0 (fun _ => true) true Try.f3.params.toList args.toList ds p := hA0
  rw [Try.params3] at hA hval hsz

  obtain ⟨v0, vs0, d0, ds0, p0, q0, hargs, rfl, rfl, h0, r0⟩ := trodAll_cons hA
  obtain ⟨v1, vs1, d1, ds1, p1, q1, rfl, rfl, rfl, h1, r1⟩ := trodAll_cons r0
  obtain ⟨v2, vs2, d2, ds2, p2, q2, rfl, rfl, rfl, h2, r2⟩ := trodAll_cons r1
  obtain ⟨rfl, rfl, rfl⟩ := trodAll_nil r2
  obtain rfl : args = #[v0, v1, v2] := by cases args; simp_all
  obtain ⟨rfl, rfl⟩ := trodVars_none hV
  obtain ⟨la0, L0, lk0, c0, m0, rfl, lz0, kc0, hS0⟩ := open_was (by obtain ⟨cs, h1, _⟩ := okWide_struct Try.underlying28 (hval 0 28 v0 rfl rfl); exact ⟨cs, h1⟩) (fun n hn => of_decide_eq_true (List.all_eq_true.1 hsz _ (DataW.weights_mem_each (j := 0) rfl rfl n hn))) h0
  obtain ⟨x1, rfl⟩ := open_kt (by obtain ⟨cs, h1, _⟩ := okWide_struct Try.underlying36 (hval 1 36 v1 rfl rfl); exact ⟨cs, h1⟩) h1
  obtain ⟨a2, rfl, rfl, rfl, w2⟩ := open_int Try.underlying23 (hval 2 23 v2 rfl rfl) h2
  have hA2 := hA0
  clear hA0 hval0 hsz0
  simp only [List.append_nil] at hW'
  refine (walk la0 L0 lk0 c0 m0 lz0 kc0 x1 a2 w2 W hS0).mono fun e W' ⟨he, bel⟩ => ?_
  subst he
  exact ⟨_, rfl, _, _, _, [], _, [], hW', trodAll_mk1 (shut_bool Try.underlying4 _), (stays_all laidOut bel (by kernel_rfl) hA2), rfl, bel.frame _, fun h => by cases h⟩

theorem over : Rows.keptTakesRow.holds Try.pinned (OpenSpec.ofChange Rows.keptTakesSpec) :=
  OpenClaim.holds_of_wide 3 Try.f3 rfl rfl rfl rfl rfl rfl rfl ⟨rfl, rfl, rfl, rfl, rfl⟩ rfl rfl rfl rfl rfl (by kernel_rfl) Try.func3 (by kernel_rfl)
    (of_decide_eq_true (by kernel_rfl)) (by unfold Func.isWrapper; first | (rw [if_pos (by decide +kernel)]; kernel_rfl) | (rw [if_neg (by decide +kernel)]; exact ⟨rfl, rfl⟩))
    (fun os started H enc _ => lifted os started H enc)

end Go.Proofs.Yteibclgipninoaa.keptTakes
namespace Go.Proofs.Yteibclgipninoaa

theorem keptTakes_holds : Rows.KeptTakesSaid := keptTakes.over
#print axioms keptTakes_holds

end Go.Proofs.Yteibclgipninoaa
