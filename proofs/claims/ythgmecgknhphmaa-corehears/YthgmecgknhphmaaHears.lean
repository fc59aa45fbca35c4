/-
  What any core does with any packet, and how it begins, is as the document says: the law CoreHears returns true for every input.
  No condition beyond the form's own.
-/
import Derived.Test.YthgmecgknhphmaaRows
import Derived.Test.YthgmecgknhphmaaCeX
import Derived.Test.YthgmecgknhphmaaCfI
import Derived.Test.YthgmecgknhphmaaCfR
import Derived.WalkKit
import Derived.ProofKit
import Derived.OpenShut
import Derived.ShutString
import Derived.SizedLaws
import Derived.ChangeOld
import Derived.Below
namespace Go.Proofs.Ythgmecgknhphmaa.coreHears
open Go.Sort Go.ChangeShapes Go.WideShapes Go.ChangeAt Go.RowKit
open Go.ChangeMaps (open_string shut_string)
set_option linter.unusedVariables false
set_option maxRecDepth 10000

theorem own : ownKnob Try.prog.godebug = none := by kernel_rfl
theorem length_bytes (s : ByteArray) : s.data.toList.length = s.size := by rw [Array.length_toList]; rfl

set_option maxHeartbeats 16000000 in
theorem walk (c : Co) (L : List Kt) (kf : c.fit) (hn : c.kn = L.length) (hl : L.length * 352 ≤ 140737488351232) (p : Pk) (w : World) (lS : Li Kt.vals 0 c.ka L w) :
    Calls Try.prog 4 #[.agg (coc c), .agg (pkc p)] w fun e w' => e = .returned (.bool true) ∧ Below w.heap.size w w' := by
  have pF := rfits_ok c
  obtain ⟨Q, hQ⟩ : ∃ Q, fitsB c = Q := ⟨_, rfl⟩
  rw [hQ] at pF
  obtain ⟨a0, a1, hB⟩ := two_blk (T0 := 35) (T1 := 50) (C0 := coc c) (C1 := pkc p) (w := w) rfl
  go_enter Try.func4, Try.ntmps4
  go_upto_region 1 with fail
  generalize (w.alloc (Obj.cells (coc c) 35)).alloc (Obj.cells (pkc p) 50) = W at a0 a1 hB ⊢
  obtain ⟨q, hq⟩ : ∃ q, w.heap.size = q := ⟨_, rfl⟩
  rw [hq] at a0 a1 ⊢
  go_wp2_with fail
  refine (fixed_ok _).mono ?_
  rintro r w1 ⟨rfl, hb⟩
  replace a0 := a0.below hb
  replace a1 := a1.below hb
  replace hB := hB.trans (hb.mono hB.size)
  clear hb 
  go_wp2_with (refine load_want rfl 35 _ rfl a0 rfl Try.underlying35 rfl sizeCo ?_)
  refine (pF _).mono ?_
  rintro r w2 ⟨rfl, hb⟩
  replace a0 := a0.below hb
  replace a1 := a1.below hb
  replace hB := hB.trans (hb.mono hB.size)
  clear hb pF
  cases Q with
  | false =>
    clear a0 a1
    go_wp2_with fail
    refine (fixed_ok _).mono ?_
    rintro r w9 ⟨rfl, hb⟩
    replace hB := hB.trans (hb.mono hB.size)
    go_wp2_with fail
    go_ret
    exact ⟨rfl, hB⟩
  | true =>
    have hQ' := of_decide_eq_true hQ
    obtain ⟨s, hs0⟩ : ∃ s : Nat, c.self = (s : Int) := ⟨c.self.toNat, by omega⟩
    have hs : s < 8 := by omega
    have pt := fun u h => crecv_ok c L p s hs hs0 kf.count hn hl u h
    have pu := fun u h => dreceive_ok c L p s hs hs0 hQ'.2.2 kf hn hl u h
    have pk := start_ok (s : Int) (p.n 1) c.wait
    have pd := rstart_ok (s : Int) (p.n 1) c.wait
    have hlen := recvS_len c L p
    obtain ⟨S, hSS⟩ : ∃ S, recvS c L p = S := ⟨_, rfl⟩
    obtain ⟨D, hDD⟩ : ∃ D, heedB c p = D := ⟨_, rfl⟩
    obtain ⟨Z, hZ⟩ : ∃ Z, startC (s : Int) (p.n 1) c.wait = Z := ⟨_, rfl⟩
    obtain ⟨E, hE⟩ : ∃ E, startB (s : Int) (p.n 1) c.wait = E := ⟨_, rfl⟩
    have hZn : Z.kn = 0 := by
      rw [← hZ, startC]
      split <;> rfl
    have kE : (E == E) = true := by simp
    have kD : (D == D) = true := by simp
    rw [hSS] at pt pu hlen
    rw [hDD] at pt pu
    rw [hZ, hE] at pk pd
    have hSl : S.L.length ≤ 9223372036854775807 := by omega
    have hTl : S.t.length ≤ 9223372036854775807 := by omega
    have pg1 : (pkc p)[1]? = some (.int .u32 (p.n 1 : Int)) := rfl
    have Hs0 : Hid (c.self = (s : Int)) := hs0
    have pZ := fun u h1 h2 => ris_ok Z [] Z.ka Z.ka Z.kc Z.kc (by simp) u h1 h2
    have hZe : Z.kp Z.ka ([] : List Kt).length Z.kc = Z := kp_self Z 0 hZn
    rw [hZe] at pZ
    clear hlen hSS hDD hZ hE hQ hQ' hs0 kf hZn hZe
    go_upto_region 3 with fail
    go_wp2_with (first | refine load_blk rfl 35 _ rfl a0 rfl Try.underlying35 rfl sizeCo ?_ | refine load_blk rfl 50 _ rfl a1 rfl Try.underlying50 rfl sizePk ?_)
    refine (pt _ (lS.below hB)).mono ?_
    rintro r w3 ⟨⟨a3, k3, ta, tk, rfl, l3, m3⟩, hb⟩
    clear pt
    replace l3 := l3.mono (Nat.zero_le _)
    replace m3 := m3.mono (Nat.zero_le _)
    replace a0 := a0.below hb
    replace a1 := a1.below hb
    replace hB := hB.trans (hb.mono hB.size)
    clear hb 
    obtain ⟨d, hd⟩ : ∃ d, Hid (S.c.kp a3 S.L.length k3 = d) := ⟨_, rfl⟩
    rw [hd.out]
    have hb := below_box w3 (.cells (coc d) 35)
    have x0 := blk_new w3 (coc d) 35
    have h_x := a0.lt
    go_upto_region 4 with (go_big_may; first | refine alloc_zero zeroCo rfl rfl ?_ | refine store_new rfl 35 _ _ rfl (cells := (coc d)) rfl rfl sizeCo rfl (coc_one _) ?_)
    try simp only [Act.put, List.setIfInBounds_toArray, List.set_cons_zero, List.set_cons_succ]
    generalize w3.alloc (Obj.cells (coc d) 35) = W3 at x0 hb ⊢
    replace a0 := a0.below hb
    replace a1 := a1.below hb
    replace l3 := l3.below hb
    replace m3 := m3.below hb
    replace hB := hB.trans (hb.mono hB.size)
    clear hb 
    generalize w3.heap.size = x at x0 h_x ⊢
    go_wp2_with (first | refine load_blk rfl 35 _ rfl a0 rfl Try.underlying35 rfl sizeCo ?_ | refine load_blk rfl 50 _ rfl a1 rfl Try.underlying50 rfl sizePk ?_)
    refine (pu _ (lS.below hB)).mono ?_
    rintro r w4 ⟨⟨a4, k4, tb, tj, rfl, l4, m4⟩, hb⟩
    clear pu
    replace a0 := a0.below hb
    replace a1 := a1.below hb
    replace x0 := x0.below hb
    replace l3 := l3.below hb
    replace m3 := m3.below hb
    replace hB := hB.trans (hb.mono hB.size)
    clear hb 
    obtain ⟨d2, hd2⟩ : ∃ d, Hid (S.c.kp a4 S.L.length k4 = d) := ⟨_, rfl⟩
    rw [hd2.out]
    have hb := below_box w4 (.cells (coc d2) 35)
    have y0 := blk_new w4 (coc d2) 35
    have h_y := x0.lt
    go_upto_region 5 with (go_big_may; first | refine alloc_zero zeroCo rfl rfl ?_ | refine store_new rfl 35 _ _ rfl (cells := (coc d2)) rfl rfl sizeCo rfl (coc_one _) ?_)
    try simp only [Act.put, List.setIfInBounds_toArray, List.set_cons_zero, List.set_cons_succ]
    generalize w4.alloc (Obj.cells (coc d2) 35) = W4 at y0 hb ⊢
    replace a0 := a0.below hb
    replace a1 := a1.below hb
    replace x0 := x0.below hb
    replace l3 := l3.below hb
    replace m3 := m3.below hb
    replace l4 := l4.below hb
    replace m4 := m4.below hb
    replace hB := hB.trans (hb.mono hB.size)
    clear hb 
    generalize w4.heap.size = y at y0 h_y ⊢
    have c0 : W4.cell? ⟨q, 0, none⟩ = some (.int .i64 (s : Int)) := (a0.cell 0 (.int .i64 c.self) rfl).trans (by rw [Hs0.out])
    have c1 := a0.cell 1 (.int .i64 c.wait) rfl
    have c2 := a1.cell 1 _ pg1
    go_wp2_with fail
    refine (pk _).mono ?_
    rintro r w5 ⟨rfl, hb⟩
    replace a0 := a0.below hb
    replace a1 := a1.below hb
    replace x0 := x0.below hb
    replace y0 := y0.below hb
    replace l3 := l3.below hb
    replace m3 := m3.below hb
    replace l4 := l4.below hb
    replace m4 := m4.below hb
    replace hB := hB.trans (hb.mono hB.size)
    clear hb pk c0 c1 c2
    have hb := below_box w5 (.cells (coc Z) 35)
    have u0 := blk_new w5 (coc Z) 35
    have h_u := y0.lt
    go_upto_region 6 with (go_big_may; first | refine alloc_zero zeroCo rfl rfl ?_ | refine store_new rfl 35 _ _ rfl (cells := (coc Z)) rfl rfl sizeCo rfl (coc_one _) ?_)
    try simp only [Act.put, List.setIfInBounds_toArray, List.set_cons_zero, List.set_cons_succ]
    generalize w5.alloc (Obj.cells (coc Z) 35) = W5 at u0 hb ⊢
    replace a0 := a0.below hb
    replace a1 := a1.below hb
    replace x0 := x0.below hb
    replace y0 := y0.below hb
    replace l3 := l3.below hb
    replace m3 := m3.below hb
    replace l4 := l4.below hb
    replace m4 := m4.below hb
    replace hB := hB.trans (hb.mono hB.size)
    clear hb 
    generalize w5.heap.size = u at u0 h_u ⊢
    have c0 : W5.cell? ⟨q, 0, none⟩ = some (.int .i64 (s : Int)) := (a0.cell 0 (.int .i64 c.self) rfl).trans (by rw [Hs0.out])
    have c1 := a0.cell 1 (.int .i64 c.wait) rfl
    have c2 := a1.cell 1 _ pg1
    go_wp2_with fail
    refine (pd _).mono ?_
    rintro r w6 ⟨rfl, hb⟩
    replace x0 := x0.below hb
    replace y0 := y0.below hb
    replace u0 := u0.below hb
    replace l3 := l3.below hb
    replace m3 := m3.below hb
    replace l4 := l4.below hb
    replace m4 := m4.below hb
    replace hB := hB.trans (hb.mono hB.size)
    clear hb pd c0 c1 c2 a0 a1
    have hb := below_box w6 (.cells (coc Z) 35)
    have v0 := blk_new w6 (coc Z) 35
    have h_v := u0.lt
    go_upto_region 7 with (go_big_may; first | refine alloc_zero zeroCo rfl rfl ?_ | refine store_new rfl 35 _ _ rfl (cells := (coc Z)) rfl rfl sizeCo rfl (coc_one _) ?_)
    try simp only [Act.put, List.setIfInBounds_toArray, List.set_cons_zero, List.set_cons_succ]
    generalize w6.alloc (Obj.cells (coc Z) 35) = W6 at v0 hb ⊢
    replace x0 := x0.below hb
    replace y0 := y0.below hb
    replace u0 := u0.below hb
    replace l3 := l3.below hb
    replace m3 := m3.below hb
    replace l4 := l4.below hb
    replace m4 := m4.below hb
    replace hB := hB.trans (hb.mono hB.size)
    clear hb 
    generalize w6.heap.size = v at v0 h_v ⊢
    have pI := fun u h1 h2 => ris_ok S.c S.L a3 a4 k3 k4 hSl u h1 h2
    rw [hd.out, hd2.out] at pI
    have pT := fun u h1 h2 => rtold_ok S.t ta tb tk tj hTl u h1 h2
    clear hd hd2 hSl hTl
    go_wp2_with (first | refine load_blk rfl 35 _ rfl x0 rfl Try.underlying35 rfl sizeCo ?_ | refine load_blk rfl 35 _ rfl y0 rfl Try.underlying35 rfl sizeCo ?_)
    refine (pI _ l3 l4).mono ?_
    rintro r w7 ⟨rfl, hb⟩
    replace u0 := u0.below hb
    replace v0 := v0.below hb
    replace m3 := m3.below hb
    replace m4 := m4.below hb
    replace hB := hB.trans (hb.mono hB.size)
    clear hb pI x0 y0 l3 l4
    go_wp2_with fail
    refine (pT _ m3 m4).mono ?_
    rintro r w8 ⟨rfl, hb⟩
    replace u0 := u0.below hb
    replace v0 := v0.below hb
    replace hB := hB.trans (hb.mono hB.size)
    clear hb pT m3 m4
    go_wp2_with (first | refine load_want rfl 35 _ rfl u0 rfl Try.underlying35 rfl sizeCo ?_ | refine load_want rfl 35 _ rfl v0 rfl Try.underlying35 rfl sizeCo ?_)
    refine (pZ _ (Li.nil _ _ _) (Li.nil _ _ _)).mono ?_
    rintro r w9 ⟨rfl, hb⟩
    replace hB := hB.trans (hb.mono hB.size)
    go_wp2_with fail
    go_ret
    exact ⟨rfl, hB⟩

set_option maxRecDepth 100000 in
theorem lifted (os : Go.Os) (started : os.Started) (H : Type) (enc : TypeId × Value → H) :
    ReturnsInHanded {} Try.checked os 4 .any (Rows.coreHearsSpec.pre6 enc Try.prog Try.f4 Rows.coreHearsRow.domain false) (Rows.coreHearsSpec.post enc Try.prog Try.f4 false true false false) := by
  refine returnsInHanded_of_change_sized (C := Try.checked) own started (by kernel_rfl) Try.func4
    (ChangeSpec.witness6 (enc := enc) (C := Try.checked) false ⟨#[], #[.agg (coc Co.zero), .agg (pkc Pk.zero)], []⟩ 8 (by kernel_rfl) (by kernel_rfl) (by kernel_rfl) (by kernel_rfl)) ?_
  intro W base args ds gs before hval0 hW hcnd hsz0 _
  have hval : ∀ (j : Nat) t v, Try.f4.params[j]? = some t → args[j]? = some v → Value.okWide Try.prog W .any base t v := hval0
  have hsz : (DataW.weightsEach Try.prog (Try.f4.params.toList ++ Rows.coreHearsSpec.plain.varTypes Try.prog) (ds ++ gs)).all (· ≤ reachBytes) = true := hsz0
  have hW' := hW
  obtain ⟨p, q, hA0, hV, rfl, hfz, hnd⟩ := hW
  have hA : DataW.TrodAll enc Try.prog W 0 (fun _ => true) true Try.f4.params.toList args.toList ds p := hA0
  rw [Try.params4] at hA hval hsz

  obtain ⟨v0, vs0, d0, ds0, p0, q0, hargs, rfl, rfl, h0, r0⟩ := trodAll_cons hA
  obtain ⟨v1, vs1, d1, ds1, p1, q1, rfl, rfl, rfl, h1, r1⟩ := trodAll_cons r0
  obtain ⟨rfl, rfl, rfl⟩ := trodAll_nil r1
  obtain rfl : args = #[v0, v1] := by cases args; simp_all
  obtain ⟨rfl, rfl⟩ := trodVars_none hV
  obtain ⟨c0, L0, rfl, kf0, kn0, kl0, hS0⟩ := open_core (by obtain ⟨cs, h1, _⟩ := okWide_struct Try.underlying35 (hval 0 35 v0 rfl rfl); exact ⟨cs, h1⟩) (fun n hn => of_decide_eq_true (List.all_eq_true.1 hsz _ (DataW.weights_mem_each (j := 0) rfl rfl n hn))) h0
  obtain ⟨p1_, rfl⟩ := open_packet (by obtain ⟨cs, h1, _⟩ := okWide_struct Try.underlying50 (hval 1 50 v1 rfl rfl); exact ⟨cs, h1⟩) h1
  have hA2 := hA0
  clear hA0 hval0 hsz0
  simp only [List.append_nil] at hW'
  refine (walk c0 L0 kf0 kn0 kl0 p1_ W hS0).mono fun e W' ⟨he, bel⟩ => ?_
  subst he
  exact ⟨_, rfl, _, _, _, [], _, [], hW', trodAll_mk1 (shut_bool Try.underlying4 _), (stays_all laidOut bel (by kernel_rfl) hA2), rfl, bel.frame _, fun h => by cases h⟩

theorem over : Rows.coreHearsRow.holds Try.pinned (OpenSpec.ofChange Rows.coreHearsSpec) :=
  OpenClaim.holds_of_wide 4 Try.f4 rfl rfl rfl rfl rfl rfl rfl ⟨rfl, rfl, rfl, rfl, rfl⟩ rfl rfl rfl rfl rfl (by kernel_rfl) Try.func4 (by kernel_rfl)
    (of_decide_eq_true (by kernel_rfl)) (by unfold Func.isWrapper; first | (rw [if_pos (by decide +kernel)]; kernel_rfl) | (rw [if_neg (by decide +kernel)]; exact ⟨rfl, rfl⟩))
    (fun os started H enc _ => lifted os started H enc)

end Go.Proofs.Ythgmecgknhphmaa.coreHears
namespace Go.Proofs.Ythgmecgknhphmaa

theorem coreHears_holds : Rows.CoreHearsSaid := coreHears.over
#print axioms coreHears_holds

end Go.Proofs.Ythgmecgknhphmaa
