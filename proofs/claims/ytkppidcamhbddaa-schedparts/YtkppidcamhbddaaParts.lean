/-
  To fill some slots, and then some more, is to fill all at once: the law SchedParts returns true for every input.
  No condition beyond the form's own.
-/
import Derived.Test.YtkppidcamhbddaaRows
import Derived.Test.YtkppidcamhbddaaScP
import Derived.WalkKit
import Derived.ProofKit
import Derived.OpenShut
import Derived.ShutString
import Derived.SizedLaws
import Derived.ChangeOld
import Derived.Below
namespace Go.Proofs.Ytkppidcamhbddaa.schedParts
open Go.Sort Go.ChangeShapes Go.WideShapes Go.ChangeAt Go.RowKit
open Go.ChangeMaps (open_string shut_string)
set_option linter.unusedVariables false
set_option maxRecDepth 10000

theorem own : ownKnob Try.prog.godebug = none := by kernel_rfl
theorem length_bytes (s : ByteArray) : s.data.toList.length = s.size := by rw [Array.length_toList]; rfl

set_option maxHeartbeats 16000000 in
theorem walk (la : Option Addr) (L : List En) (lc : Nat) (lz : L.length * 56 ≤ 140737488351232) (lk : L.length ≤ lc) (lm : lc ≤ maxLen) (ls : ∀ x ∈ L, x.fit) (l0 : Int) (wf : (Lit.int .u64 l0).wf = true) (n m : Int) (w : World) (hL : Li En.vals 0 la L w) : Calls Try.prog 6 #[.slice la L.length lc, .int .u64 l0, .agg (twc n m)] w fun e w' => e = .returned (.bool true) ∧ Below w.heap.size w w' := by
  have hf := fit_ses ls
  obtain ⟨l, rfl, hl⟩ := u64nat wf
  have hB := below_box w (.cells (twc n m) 38)
  have p7 := True.intro
  have b0 := blk_new w (twc n m) 38
  have c0 : (w.alloc (.cells (twc n m) 38)).cell? ⟨w.heap.size, 0, none⟩ = some (.int .i64 n) := b0.cell 0 _ rfl
  have c1 : (w.alloc (.cells (twc n m) 38)).cell? ⟨w.heap.size, 1, none⟩ = some (.int .i64 m) := b0.cell 1 _ rfl
  generalize hnl : L.length = q
  have HNL : Hid (L.length = q) := hnl
  have lq : q ≤ 2513169434843 := by omega
  clear hnl
  by_cases h1 : 100 < q
  · have d1 : (100 : Int) < (q : Int) := by omega
    clear ls lz hL hf p7
    go_enter Try.func6, Try.ntmps6
    go_wp2_with fail
    go_quiet (fail)
    go_wp2_with fail
    refine (fixed_ok _).mono ?_
    rintro r w1 ⟨rfl, hb⟩
    replace hB := below_next (below_dn hB nq) hb
    clear hb
    go_wp2_with fail
    refine (fixed_ok _).mono ?_
    rintro r w2 ⟨rfl, hb⟩
    replace hB := below_next hB hb
    clear hb
    go_wp2_with fail
    go_ret
    exact ⟨rfl, hB⟩
  have d1 : ¬ (100 : Int) < (q : Int) := by omega
  by_cases h2 : n < 0
  · skip
    clear ls lz hL hf p7
    go_enter Try.func6, Try.ntmps6
    go_wp2_with fail
    go_quiet (fail)
    go_wp2_with fail
    refine (fixed_ok _).mono ?_
    rintro r w1 ⟨rfl, hb⟩
    replace hB := below_next (below_dn hB nq) hb
    clear hb
    go_wp2_with fail
    refine (fixed_ok _).mono ?_
    rintro r w2 ⟨rfl, hb⟩
    replace hB := below_next hB hb
    clear hb
    go_wp2_with fail
    go_ret
    exact ⟨rfl, hB⟩
  by_cases h3 : 8 < n
  · skip
    clear ls lz hL hf p7
    go_enter Try.func6, Try.ntmps6
    go_wp2_with fail
    go_quiet (fail)
    go_wp2_with fail
    refine (fixed_ok _).mono ?_
    rintro r w1 ⟨rfl, hb⟩
    replace hB := below_next (below_dn hB nq) hb
    clear hb
    go_wp2_with fail
    refine (fixed_ok _).mono ?_
    rintro r w2 ⟨rfl, hb⟩
    replace hB := below_next hB hb
    clear hb
    go_wp2_with fail
    go_ret
    exact ⟨rfl, hB⟩
  by_cases h4 : m < 0
  · skip
    clear ls lz hL hf p7
    go_enter Try.func6, Try.ntmps6
    go_wp2_with fail
    go_quiet (fail)
    go_wp2_with fail
    refine (fixed_ok _).mono ?_
    rintro r w1 ⟨rfl, hb⟩
    replace hB := below_next (below_dn hB nq) hb
    clear hb
    go_wp2_with fail
    refine (fixed_ok _).mono ?_
    rintro r w2 ⟨rfl, hb⟩
    replace hB := below_next hB hb
    clear hb
    go_wp2_with fail
    go_ret
    exact ⟨rfl, hB⟩
  by_cases h5 : 8 < m
  · skip
    clear ls lz hL hf p7
    go_enter Try.func6, Try.ntmps6
    go_wp2_with fail
    go_quiet (fail)
    go_wp2_with fail
    refine (fixed_ok _).mono ?_
    rintro r w1 ⟨rfl, hb⟩
    replace hB := below_next (below_dn hB nq) hb
    clear hb
    go_wp2_with fail
    refine (fixed_ok _).mono ?_
    rintro r w2 ⟨rfl, hb⟩
    replace hB := below_next hB hb
    clear hb
    go_wp2_with fail
    go_ret
    exact ⟨rfl, hB⟩
  obtain ⟨i, rfl⟩ : ∃ i : Nat, n = (i : Int) := ⟨n.toNat, by omega⟩
  obtain ⟨j, rfl⟩ : ∃ j : Nat, m = (j : Int) := ⟨m.toNat, by omega⟩
  have lm3 : L.length ≤ 300 := by have := HNL.out; omega
  have e1 : manyS (i : Int) = i := by unfold manyS; omega
  have e2 : manyS (j : Int) = j := by unfold manyS; omega
  have e3 : manyS ((i : Int) + (j : Int)) = i + j := by unfold manyS; omega
  have q1 := fill_ok L l (i : Int) hf hl (by omega) la lc lm3
  have q3 := fill_ok L l ((i : Int) + (j : Int)) hf hl (by omega) la lc lm3
  rw [e1] at q1
  rw [e3, fillS_more j i L l] at q3
  have hfR := fill_fit (l := l) hf i
  have hlR := fill_last hf hl i
  have hln := fill_len L l i
  have hln2 := fillS_lens i L l
  generalize fillS i L l = Z at q1 q3 hfR hlR hln hln2
  obtain ⟨A, R, k⟩ := Z
  simp only at hfR hlR hln hln2 q3
  have q2 := fun a c => fill_ok R k (j : Int) hfR hlR (by omega) a c (by omega)
  rw [e2] at q2
  have hln3 := fillS_lens j R k
  generalize fillS j R k = Y at q2 q3 hln3
  obtain ⟨D, E, g⟩ := Y
  simp only at hln3 q3
  unfold Filled at q1 q2 q3
  simp only at q1 q2 q3
  have q4 := fun a b c d => ents_ok (A ++ D) a b c d (by rw [List.length_append]; omega)
  have q5 := fun a b c d => ents_ok E a b c d (by omega)
  have q8 : (A ++ D).length = A.length + D.length := List.length_append
  rw [q8] at q3 q4
  obtain ⟨nA, hnA⟩ : ∃ x, Hid (A.length = x) := ⟨_, rfl⟩
  obtain ⟨nD, hnD⟩ : ∃ x, Hid (D.length = x) := ⟨_, rfl⟩
  rw [hnA.out] at q1 q3 q4 hln hln2
  rw [hnD.out] at q2 q3 q4 hln3
  have hbb : nA ≤ 300 ∧ nD ≤ 300 := by omega
  generalize R.length = nR at q1 q2
  generalize E.length = nE at q2 q3 q5
  rw [HNL.out] at q1 q3
  obtain ⟨iI, zI, hI, hz0, hsz, hby, hzs⟩ := infoEn
  clear ls lz hf hfR hlR hln hln2 hln3 e1 e2 e3 q8 lm3 p7
  go_enter Try.func6, Try.ntmps6
  go_wp2_with fail
  go_quiet (fail)
  go_wp2_with fail
  refine (fixed_ok _).mono ?_
  rintro r w1 ⟨rfl, hb⟩
  replace hL := (hL.below (below_dn hB nq)).below hb
  replace hB := below_next (below_dn hB nq) hb
  clear hb b0 c0 c1
  go_wp2_with fail
  refine (q1 _ hL).mono ?_
  rintro r wq ⟨⟨aA, cA, aR, cR, rfl, hA, hR⟩, hb⟩
  replace hL := hL.below hb
  replace hB := below_next hB hb
  clear hb
  go_wp2_with fail
  refine (q2 _ _ _ hR).mono ?_
  rintro r wq ⟨⟨aD, cD, aE, cE, rfl, hD, hE⟩, hb⟩
  replace hL := hL.below hb
  replace hA := hA.below hb
  replace hB := below_next hB hb
  clear hb
  go_wp2_with fail
  refine (q3 _ hL).mono ?_
  rintro r wq ⟨⟨aG, cG, aH, cH, rfl, hG, hH⟩, hb⟩
  replace hA := hA.below hb
  replace hD := hD.below hb
  replace hE := hE.below hb
  replace hB := below_next hB hb
  clear hb
  rename World => V
  have o0 := Lg.of (Ow.empty (f := En.vals) (k := 6) (blk_new V #[] 36)) (Nat.le_refl V.heap.size)
  have hV := below_box V (.cells #[] 36)
  have hx1 := (hA.below hV).src (P := Try.prog) En.vals_length En.vals_one Try.underlying22 cA
  rw [hnA.out] at hx1
  go_wp2_with (first | refine box_En0 rfl rfl ?_ | (refine append_any En.vals_length rfl _ _ rfl Try.underlying22 hI hz0 hsz hby hzs o0 hV.size (n := 0) rfl rfl (M := A) (m := nA) hnA.out (by rw [hnA.out]; exact hx1) rfl (by omega) (by simp only [maxLen]; omega) ?_; intro a5 c5 W5 hG5 hK5 hn5; rw [List.nil_append] at hG5; have hB5 : Below V.heap.size V W5 := hV.trans (hK5.below (fun k hk => by simp [blkOf] at hk; omega) hV.size); have hx2 := (hD.below hB5).src (P := Try.prog) En.vals_length En.vals_one Try.underlying22 cD; rw [hnD.out] at hx2; clear o0 hx1 hK5 hn5) | (refine append_any En.vals_length rfl _ _ rfl Try.underlying22 hI hz0 hsz hby hzs hG5 hB5.size hnA.out rfl (M := D) (m := nD) hnD.out (by rw [hnD.out]; exact hx2) rfl (by omega) (by simp only [maxLen]; omega) ?_; intro a6 c6 W6 hG6 hK6 hn6))
  have hB6 : Below V.heap.size V W6 := hB5.trans (hK6.below (fun k hk => (hG5.in k hk).1) hB5.size)
  have hL6 := hG6.li.mono (Nat.zero_le _)
  have hE6 := hE.below hB6
  have hG7 := hG.below hB6
  have hH6 := hH.below hB6
  replace hB := hB.trans (hB6.mono hB.size)
  clear hG5 hG6 hK6 hn6 hB5 hB6 hV hA hD hE hG hH hx2
  refine (q4 _ _ _ _ _ hL6 hG7).mono ?_
  rintro r w7 ⟨rfl, hb⟩
  replace hE6 := hE6.below hb
  replace hH6 := hH6.below hb
  replace hB := below_next hB hb
  clear hb hL6 hG7
  go_wp2_with fail
  refine (q5 _ _ _ _ _ hE6 hH6).mono ?_
  rintro r wq ⟨rfl, hb⟩
  replace hB := below_next hB hb
  clear hb
  go_wp2_with fail
  go_ret
  exact ⟨rfl, hB⟩

set_option maxRecDepth 100000 in
theorem lifted (os : Go.Os) (started : os.Started) (H : Type) (enc : TypeId × Value → H) :
    ReturnsInHanded {} Try.checked os 6 .any (Rows.schedPartsSpec.pre6 enc Try.prog Try.f6 Rows.schedPartsRow.domain false) (Rows.schedPartsSpec.post enc Try.prog Try.f6 false true false false) := by
  refine returnsInHanded_of_change_sized (C := Try.checked) own started (by kernel_rfl) Try.func6
    (ChangeSpec.witness6 (enc := enc) (C := Try.checked) false ⟨#[], #[.slice none 0 0, .int .u64 0, .agg (twc 0 0)], []⟩ 8 (by kernel_rfl) (by kernel_rfl) (by kernel_rfl) (by kernel_rfl)) ?_
  intro W base args ds gs before hval0 hW hcnd hsz0 _
  have hval : ∀ (j : Nat) t v, Try.f6.params[j]? = some t → args[j]? = some v → Value.okWide Try.prog W .any base t v := hval0
  have hsz : (DataW.weightsEach Try.prog (Try.f6.params.toList ++ Rows.schedPartsSpec.plain.varTypes Try.prog) (ds ++ gs)).all (· ≤ reachBytes) = true := hsz0
  have hW' := hW
  obtain ⟨p, q, hA0, hV, rfl, hfz, hnd⟩ := hW
  have hA : DataW.TrodAll enc Try.prog W 0 (fun _ => true) true Try.f6.params.toList args.toList ds p := hA0
  rw [Try.params6] at hA hval hsz

  obtain ⟨v0, vs0, d0, ds0, p0, q0, hargs, rfl, rfl, h0, r0⟩ := trodAll_cons hA
  obtain ⟨v1, vs1, d1, ds1, p1, q1, rfl, rfl, rfl, h1, r1⟩ := trodAll_cons r0
  obtain ⟨v2, vs2, d2, ds2, p2, q2, rfl, rfl, rfl, h2, r2⟩ := trodAll_cons r1
  obtain ⟨rfl, rfl, rfl⟩ := trodAll_nil r2
  obtain rfl : args = #[v0, v1, v2] := by cases args; simp_all
  obtain ⟨rfl, rfl⟩ := trodVars_none hV
  obtain ⟨la0, L0, lc0, rfl, lz0, hc0, hm0, ls0, hS0⟩ := open_EnsW (okWide_slice Try.underlying22 (hval 0 22 v0 rfl rfl)) (fun n hn => of_decide_eq_true (List.all_eq_true.1 hsz _ (DataW.weights_mem_each (j := 0) rfl rfl n hn))) h0
  obtain ⟨a1, rfl, rfl, rfl, w1⟩ := open_int Try.underlying23 (hval 1 23 v1 rfl rfl) h1
  obtain ⟨tn2, tm2, rfl⟩ := open_two (by obtain ⟨cs, h1, _⟩ := (by simpa only [Value.okWide, Try.underlying38] using hval 2 38 v2 rfl rfl : ∃ cs, v2 = .agg cs ∧ _); exact ⟨cs, h1⟩) h2
  have hA2 := hA0
  clear hA0 hval0 hsz0
  simp only [List.append_nil] at hW'
  refine (walk la0 L0 lc0 lz0 hc0 hm0 ls0 a1 w1 tn2 tm2 W hS0).mono fun e W' ⟨he, bel⟩ => ?_
  subst he
  exact ⟨_, rfl, _, _, _, [], _, [], hW', trodAll_mk1 (shut_bool Try.underlying4 _), (stays_all laidOut bel (by kernel_rfl) hA2), rfl, bel.frame _, fun h => by cases h⟩

theorem over : Rows.schedPartsRow.holds Try.pinned (OpenSpec.ofChange Rows.schedPartsSpec) :=
  OpenClaim.holds_of_wide 6 Try.f6 rfl rfl rfl rfl rfl rfl rfl ⟨rfl, rfl, rfl, rfl, rfl⟩ rfl rfl rfl rfl rfl (by kernel_rfl) Try.func6 (by kernel_rfl)
    (of_decide_eq_true (by kernel_rfl)) (by unfold Func.isWrapper; first | (rw [if_pos (by decide +kernel)]; kernel_rfl) | (rw [if_neg (by decide +kernel)]; exact ⟨rfl, rfl⟩))
    (fun os started H enc _ => lifted os started H enc)

end Go.Proofs.Ytkppidcamhbddaa.schedParts
namespace Go.Proofs.Ytkppidcamhbddaa

theorem schedParts_holds : Rows.SchedPartsSaid := schedParts.over
#print axioms schedParts_holds

end Go.Proofs.Ytkppidcamhbddaa
