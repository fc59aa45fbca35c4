/-
  What is taken of any packet, within any bounds, is as the document says: the law KeptOffers returns true for every input.
  No condition beyond the form's own.
-/
import Derived.Test.YteibclgipninoaaRows
import Derived.Test.YteibclgipninoaaKtK
import Derived.Test.YteibclgipninoaaKtI
import Derived.Test.YteibclgipninoaaKtN
import Derived.WalkKit
import Derived.ProofKit
import Derived.OpenShut
import Derived.ShutString
import Derived.SizedLaws
import Derived.ChangeOld
import Derived.Below
namespace Go.Proofs.Yteibclgipninoaa.keptOffers
open Go.Sort Go.ChangeShapes Go.WideShapes Go.ChangeAt Go.RowKit
open Go.ChangeMaps (open_string shut_string)
set_option linter.unusedVariables false
set_option maxRecDepth 10000

theorem own : ownKnob Try.prog.godebug = none := by kernel_rfl
theorem length_bytes (s : ByteArray) : s.data.toList.length = s.size := by rw [Array.length_toList]; rfl

set_option maxHeartbeats 8000000 in
theorem walk (la : Option Addr) (L : List Kt) (lk : Nat) (c m : Nat → Nat) (hz : L.length * 352 ≤ 140737488351232) (hc : ∀ i, c i < 4294967296) (p : Pk) (o : Nat → Nat) (ho : ∀ i, o i < 4294967296) (w : World) (lS : Li Kt.vals 0 la L w) :
    Calls Try.prog 4 #[.agg (wsc (.slice la L.length lk) c m), .agg (pkc p), .agg (mbc o)] w fun e w' => e = .returned (.bool true) ∧ Below w.heap.size w w' := by
  have pO := offer_ok L la lk c m o p hc hz
  have pR := roffers_ok L la lk c m o p hc hz
  have lm2 := offO_len m o p ⟨L, c, []⟩
  have lm3 := offO_tlen m o p ⟨L, c, []⟩
  replace lm2 : (offO m o p ⟨L, c, []⟩).L.length ≤ 9223372036854775807 := Nat.le_trans lm2 (by show L.length + 3 ≤ _; omega)
  replace lm3 : (offO m o p ⟨L, c, []⟩).t.length ≤ 9223372036854775807 := Nat.le_trans lm3 (by show 0 + 3 ≤ _; omega)
  unfold Offered at pO pR
  generalize offO m o p ⟨L, c, []⟩ = S at pO pR lm2 lm3
  have e1 := eqlCt S.c S.c true (mbSame_self S.c)
  obtain ⟨a0, a1, a2, hB⟩ := three_blk (T0 := 28) (T1 := 49) (T2 := 25) (C0 := (wsc (.slice la L.length lk) c m)) (C1 := pkc p) (C2 := mbc o) (w := w) rfl
  go_enter Try.func4, Try.ntmps4
  go_upto_region 1 with fail
  generalize ((w.alloc (Obj.cells (wsc (.slice la L.length lk) c m) 28)).alloc (Obj.cells (pkc p) 49)).alloc (Obj.cells (mbc o) 25) = W at a0 a1 a2 hB ⊢
  have c0 : W.cell? ⟨w.heap.size, 0, none⟩ = some (.slice la L.length lk) := a0.cell 0 _ rfl
  go_wp2_with (first | refine load_part rfl 25 _ rfl (o := 1) a0 rfl (row8 c) (wsc_c _ _ _) Try.underlying25 rfl sizeCt ?_ | refine load_part rfl 26 _ rfl (o := 9) a0 rfl (row8 m) (wsc_m _ _ _) Try.underlying26 rfl sizeMb ?_ | refine load_blk rfl 49 _ rfl a1 rfl Try.underlying49 rfl sizePk ?_ | refine load_blk rfl 25 _ rfl a2 rfl Try.underlying25 rfl sizeCt ?_)
  refine (pO _ (lS.below hB)).mono ?_
  rintro r w1 ⟨⟨ra, rk, rb, rj, rfl, rl, rt⟩, hb⟩
  replace a0 := a0.below hb
  replace a1 := a1.below hb
  replace a2 := a2.below hb
  replace hB := hB.trans (hb.mono hB.size)
  clear hb
  clear c0
  have hb := below_box w1 (.cells (mbc S.c) 25)
  have d1 := blk_new w1 (mbc S.c) 25
  go_upto_region 2 with (first | refine alloc_zero zeroCt rfl rfl ?_ | refine store_new rfl 25 _ _ rfl (cells := (mbc S.c)) rfl rfl sizeCt rfl (mbc_one _) ?_)
  try simp only [Act.put]
  generalize w1.alloc (Obj.cells (mbc S.c) 25) = V1 at d1 hb ⊢
  replace a0 := a0.below hb
  replace a1 := a1.below hb
  replace a2 := a2.below hb
  replace rl := rl.below hb
  replace rt := rt.below hb
  replace hB := hB.trans (hb.mono hB.size)
  clear hb
  have c0 : V1.cell? ⟨w.heap.size, 0, none⟩ = some (.slice la L.length lk) := a0.cell 0 _ rfl
  go_wp2_with (first | refine load_part rfl 25 _ rfl (o := 1) a0 rfl (row8 c) (wsc_c _ _ _) Try.underlying25 rfl sizeCt ?_ | refine load_part rfl 26 _ rfl (o := 9) a0 rfl (row8 m) (wsc_m _ _ _) Try.underlying26 rfl sizeMb ?_ | refine load_blk rfl 49 _ rfl a1 rfl Try.underlying49 rfl sizePk ?_ | refine load_blk rfl 25 _ rfl a2 rfl Try.underlying25 rfl sizeCt ?_)
  refine (pR _ (lS.below hB)).mono ?_
  rintro r w2 ⟨⟨qa, qk, qb, qj, rfl, ql, qt⟩, hb⟩
  replace a0 := a0.below hb
  replace a1 := a1.below hb
  replace a2 := a2.below hb
  replace rl := rl.below hb
  replace rt := rt.below hb
  replace d1 := d1.below hb
  replace hB := hB.trans (hb.mono hB.size)
  clear hb
  clear c0
  have hb := below_box w2 (.cells (mbc S.c) 25)
  have d2 := blk_new w2 (mbc S.c) 25
  go_upto_region 3 with (first | refine alloc_zero zeroCt rfl rfl ?_ | refine store_new rfl 25 _ _ rfl (cells := (mbc S.c)) rfl rfl sizeCt rfl (mbc_one _) ?_)
  try simp only [Act.put]
  generalize w2.alloc (Obj.cells (mbc S.c) 25) = V2 at d2 hb ⊢
  replace a0 := a0.below hb
  replace a1 := a1.below hb
  replace a2 := a2.below hb
  replace rl := rl.below hb
  replace rt := rt.below hb
  replace d1 := d1.below hb
  replace ql := ql.below hb
  replace qt := qt.below hb
  replace hB := hB.trans (hb.mono hB.size)
  clear hb
  clear pO pR a0 a1 a2
  go_wp2_with fail
  refine (fixed_ok _).mono ?_
  rintro r w3 ⟨rfl, hb⟩
  replace rl := rl.below hb
  replace rt := rt.below hb
  replace d1 := d1.below hb
  replace ql := ql.below hb
  replace qt := qt.below hb
  replace d2 := d2.below hb
  replace hB := hB.trans (hb.mono hB.size)
  clear hb
  go_wp2_with fail
  refine (rsame_ok S.L ra qa rk qk lm2 _ rl ql).mono ?_
  rintro r w4 ⟨rfl, hb⟩
  replace rl := rl.below hb
  replace rt := rt.below hb
  replace d1 := d1.below hb
  replace ql := ql.below hb
  replace qt := qt.below hb
  replace d2 := d2.below hb
  replace hB := hB.trans (hb.mono hB.size)
  clear hb
  go_wp2_with (first | refine load_want rfl 25 _ rfl d1 rfl Try.underlying25 rfl sizeCt ?_ | refine load_want rfl 25 _ rfl d2 rfl Try.underlying25 rfl sizeCt ?_)
  clear rl ql d1 d2
  refine (rsame_ok S.t rb qb rj qj lm3 _ rt qt).mono ?_
  rintro r w5 ⟨rfl, hb⟩
  replace rt := rt.below hb
  replace qt := qt.below hb
  replace hB := hB.trans (hb.mono hB.size)
  clear hb
  clear rt qt
  go_wp2_with fail
  go_ret
  exact ⟨rfl, hB⟩

set_option maxRecDepth 100000 in
theorem lifted (os : Go.Os) (started : os.Started) (H : Type) (enc : TypeId × Value → H) :
    ReturnsInHanded {} Try.checked os 4 .any (Rows.keptOffersSpec.pre6 enc Try.prog Try.f4 Rows.keptOffersRow.domain false) (Rows.keptOffersSpec.post enc Try.prog Try.f4 false true false false) := by
  refine returnsInHanded_of_change_sized (C := Try.checked) own started (by kernel_rfl) Try.func4
    (ChangeSpec.witness6 (enc := enc) (C := Try.checked) false ⟨#[], #[.agg (wsc (.slice none 0 0) noMb noMb), .agg (pkc Pk.zero), .agg (mbc noMb)], []⟩ 8 (by kernel_rfl) (by kernel_rfl) (by kernel_rfl) (by kernel_rfl)) ?_
  intro W base args ds gs before hval0 hW hcnd hsz0 _
  have hval : ∀ (j : Nat) t v, Try.f4.params[j]? = some t → args[j]? = some v → Value.okWide Try.prog W .any base t v := hval0
  have hsz : (DataW.weightsEach Try.prog (Try.f4.params.toList ++ Rows.keptOffersSpec.plain.varTypes Try.prog) (ds ++ gs)).all (· ≤ reachBytes) = true := hsz0
  have hW' := hW
  obtain ⟨p, q, hA0, hV, rfl, hfz, hnd⟩ := hW
  have hA : DataW.TrodAll enc Try.prog W 0 (fun _ => true) true Try.f4.params.toList args.toList ds p := hA0
  rw [Try.params4] at hA hval hsz

  obtain ⟨v0, vs0, d0, ds0, p0, q0, hargs, rfl, rfl, h0, r0⟩ := trodAll_cons hA
  obtain ⟨v1, vs1, d1, ds1, p1, q1, rfl, rfl, rfl, h1, r1⟩ := trodAll_cons r0
  obtain ⟨v2, vs2, d2, ds2, p2, q2, rfl, rfl, rfl, h2, r2⟩ := trodAll_cons r1
  obtain ⟨rfl, rfl, rfl⟩ := trodAll_nil r2
  obtain rfl : args = #[v0, v1, v2] := by cases args; simp_all
  obtain ⟨rfl, rfl⟩ := trodVars_none hV
  obtain ⟨la0, L0, lk0, c0, m0, rfl, lz0, kc0, hS0⟩ := open_was (by obtain ⟨cs, h1, _⟩ := okWide_struct Try.underlying28 (hval 0 28 v0 rfl rfl); exact ⟨cs, h1⟩) (fun n hn => of_decide_eq_true (List.all_eq_true.1 hsz _ (DataW.weights_mem_each (j := 0) rfl rfl n hn))) h0
  obtain ⟨p1_, rfl⟩ := open_packet (by obtain ⟨cs, h1, _⟩ := okWide_struct Try.underlying49 (hval 1 49 v1 rfl rfl); exact ⟨cs, h1⟩) h1
  obtain ⟨c2, rfl, kc2⟩ := open_ct (by obtain ⟨cs, h1, _⟩ := (by simpa only [Value.okWide, Try.underlying25] using hval 2 25 v2 rfl rfl : ∃ cs, v2 = .agg cs ∧ _); exact ⟨cs, h1⟩) h2
  have hA2 := hA0
  clear hA0 hval0 hsz0
  simp only [List.append_nil] at hW'
  refine (walk la0 L0 lk0 c0 m0 lz0 kc0 p1_ c2 kc2 W hS0).mono fun e W' ⟨he, bel⟩ => ?_
  subst he
  exact ⟨_, rfl, _, _, _, [], _, [], hW', trodAll_mk1 (shut_bool Try.underlying4 _), (stays_all laidOut bel (by kernel_rfl) hA2), rfl, bel.frame _, fun h => by cases h⟩

theorem over : Rows.keptOffersRow.holds Try.pinned (OpenSpec.ofChange Rows.keptOffersSpec) :=
  OpenClaim.holds_of_wide 4 Try.f4 rfl rfl rfl rfl rfl rfl rfl ⟨rfl, rfl, rfl, rfl, rfl⟩ rfl rfl rfl rfl rfl (by kernel_rfl) Try.func4 (by kernel_rfl)
    (of_decide_eq_true (by kernel_rfl)) (by unfold Func.isWrapper; first | (rw [if_pos (by decide +kernel)]; kernel_rfl) | (rw [if_neg (by decide +kernel)]; exact ⟨rfl, rfl⟩))
    (fun os started H enc _ => lifted os started H enc)

end Go.Proofs.Yteibclgipninoaa.keptOffers
namespace Go.Proofs.Yteibclgipninoaa

theorem keptOffers_holds : Rows.KeptOffersSaid := keptOffers.over
#print axioms keptOffers_holds

end Go.Proofs.Yteibclgipninoaa
