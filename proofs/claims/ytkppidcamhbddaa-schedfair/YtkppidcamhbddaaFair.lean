/-
  Of the sessions that have entries that wait each one has its turn within as many turns as there are of them, and none has two turns while another one waits: the law SchedFair returns true for every input.
  No condition beyond the form's own.
-/
import Derived.Test.YtkppidcamhbddaaRows
import Derived.Test.YtkppidcamhbddaaScV
import Derived.WalkKit
import Derived.ProofKit
import Derived.OpenShut
import Derived.ShutString
import Derived.SizedLaws
import Derived.ChangeOld
import Derived.Below
namespace Go.Proofs.Ytkppidcamhbddaa.schedFair
open Go.Sort Go.ChangeShapes Go.WideShapes Go.ChangeAt Go.RowKit
open Go.ChangeMaps (open_string shut_string)
set_option linter.unusedVariables false
set_option maxRecDepth 10000

theorem own : ownKnob Try.prog.godebug = none := by kernel_rfl
theorem length_bytes (s : ByteArray) : s.data.toList.length = s.size := by rw [Array.length_toList]; rfl

set_option maxHeartbeats 16000000 in
theorem walk (la : Option Addr) (L : List En) (lc : Nat) (lz : L.length * 56 ≤ 140737488351232) (lk : L.length ≤ lc) (lm : lc ≤ maxLen) (ls : ∀ x ∈ L, x.fit) (l0 : Int) (wf : (Lit.int .u64 l0).wf = true) (w : World) (hL : Li En.vals 0 la L w) : Calls Try.prog 5 #[.slice la L.length lc, .int .u64 l0] w fun e w' => e = .returned (.bool true) ∧ Below w.heap.size w w' := by
  have hf := fit_ses ls
  obtain ⟨l, rfl, hl⟩ := u64nat wf
  have hB := Below.refl w.heap.size w
  obtain ⟨q, hq⟩ : ∃ q, Hid (L.length = q) := ⟨_, rfl⟩
  have p5 := sess_ok L la lc lz
  have hln := sess_len L
  have hsI := sessI_len L
  have hsK := sessI_mem L
  unfold MadeU at p5
  obtain ⟨K, hK0⟩ : ∃ K, Hid (sessI L = K) := ⟨_, rfl⟩
  rw [hK0.out] at p5 hsI hsK
  obtain ⟨nK, hnK⟩ : ∃ x, Hid (K.length = x) := ⟨_, rfl⟩
  rw [hnK.out] at p5 hsI
  have hfair := fair_all L l
  rw [← hsI] at hfair hln
  rw [hq.out] at p5 hln
  rw [hq.out] at hfair
  have hKN : Hid (∀ k ∈ K, ∃ s' : Nat, k = (s' : Int) ∧ s' ∈ sessS L) := fun k hk => by
    obtain ⟨e, he, h⟩ := (hsK k).1 hk
    exact ⟨e.se, h.symm, (sessS_mem L _).2 ⟨e, he, rfl⟩⟩
  rw [hq.out]
  clear hsK hsI
  have hqb : q ≤ 2513169434843 := by have := hq.out; omega
  by_cases h1 : 100 < q
  · have d1 : (100 : Int) < (q : Int) := by omega
    clear hfair hKN ls lz hf
    go_enter Try.func5, Try.ntmps5
    go_wp2_with fail
    refine (p5 _ hL).mono ?_
    rintro r w1 ⟨⟨aK, cK, rfl, hK⟩, hb⟩
    replace hB := below_next hB hb
    clear hb hK hL p5
    go_wp2_with fail
    refine (fixed_ok _).mono ?_
    rintro r w8 ⟨rfl, hb⟩
    replace hB := below_next hB hb
    clear hb
    go_wp2_with fail
    refine (fixed_ok _).mono ?_
    rintro r w9 ⟨rfl, hb⟩
    replace hB := below_next hB hb
    clear hb
    go_wp2_with fail
    go_ret
    exact ⟨rfl, hB⟩
  have d1 : ¬ (100 : Int) < (q : Int) := by omega
  by_cases h2 : 16 < nK
  · have d2 : (16 : Int) < (nK : Int) := by omega
    clear hfair hKN ls lz hf
    go_enter Try.func5, Try.ntmps5
    go_wp2_with fail
    refine (p5 _ hL).mono ?_
    rintro r w1 ⟨⟨aK, cK, rfl, hK⟩, hb⟩
    replace hB := below_next hB hb
    clear hb hK hL p5
    go_wp2_with fail
    refine (fixed_ok _).mono ?_
    rintro r w8 ⟨rfl, hb⟩
    replace hB := below_next hB hb
    clear hb
    go_wp2_with fail
    refine (fixed_ok _).mono ?_
    rintro r w9 ⟨rfl, hb⟩
    replace hB := below_next hB hb
    clear hb
    go_wp2_with fail
    go_ret
    exact ⟨rfl, hB⟩
  have d2 : ¬ (16 : Int) < (nK : Int) := by omega
  have lm3 : L.length ≤ 300 := by have := hq.out; omega
  have p1 := fill_ok L l (nK : Int) hf hl (by omega) la lc lm3
  obtain ⟨A, hA0⟩ : ∃ A, (fillS (manyS (nK : Int)) L l).1 = A := ⟨_, rfl⟩
  obtain ⟨R, hR0⟩ : ∃ R, (fillS (manyS (nK : Int)) L l).2.1 = R := ⟨_, rfl⟩
  obtain ⟨m, hm0⟩ : ∃ m, (fillS (manyS (nK : Int)) L l).2.2 = m := ⟨_, rfl⟩
  obtain ⟨f1, f2, f3, f4, f5⟩ := hfair (by omega) A R m (by rw [← hA0, ← hR0, ← hm0])
  unfold Filled at p1
  rw [hA0, hR0, hm0] at p1
  obtain ⟨nA, hnA⟩ : ∃ x, Hid (A.length = x) := ⟨_, rfl⟩
  obtain ⟨nR, hnR⟩ : ∃ x, Hid (R.length = x) := ⟨_, rfl⟩
  have hlA : A.length ≤ 300 := by omega
  have Q1 := fun s' a c => of_ok s' A a c hlA
  rw [hnA.out] at p1 f1 f5 Q1 hlA
  rw [hnR.out] at p1 f2
  rw [hq.out] at p1
  have F3 : Hid (∀ s', s' ∈ sessS L → (entS s' A).length = 1) := f3
  have F4 : Hid (∀ x, A.getLast? = some x → m = x.se) := f4
  have F5 : Hid (dnL l A nA ≤ 1) := f5
  have e1 : ((nA : Int) != (nK : Int)) = false := by rw [bne_eq_false_iff_eq]; omega
  have e2 : ((nR : Int) != (q : Int) - (nK : Int)) = false := by rw [bne_eq_false_iff_eq]; omega
  have F1 : Hid (nA = nK) := f1
  clear hfair hA0 hR0 hm0 f1 f2 f3 f4 f5 ls lz hf
  go_enter Try.func5, Try.ntmps5
  go_wp2_with fail
  refine (p5 _ hL).mono ?_
  rintro r w1 ⟨⟨aK, cK, rfl, hK⟩, hb⟩
  replace hL := hL.below hb
  replace hB := below_next hB hb
  clear hb p5
  go_wp2_with fail
  refine (fixed_ok _).mono ?_
  rintro r w2 ⟨rfl, hb⟩
  replace hL := hL.below hb
  replace hK := hK.below hb
  replace hB := below_next hB hb
  clear hb
  go_wp2_with fail
  refine (p1 _ hL).mono ?_
  rintro r w3 ⟨⟨aA, cA, aR, cR, rfl, hA, hR⟩, hb⟩
  replace hK := hK.below hb
  replace hB := below_next hB hb
  clear hb hR hL p1
  go_wp2_with fail
  clear e1 e2 d1 d2
  go_loopw [9] (fun iv wr => ∃ j : Nat, j ≤ nK ∧ iv = .int .i64 j ∧ Li encU 0 aK K wr ∧ Li En.vals 0 aA A wr ∧ Below w.heap.size w wr) (fun iv _ => nK - (intOf iv).toNat)
  case atStart => exact ⟨0, by omega, rfl, hK, hA, hB⟩
  case round =>
    clear hK hA hB
    obtain ⟨j, hj, rfl, hK, hA, hB⟩ := hrel
    rename World => wr
    by_cases hjn : j < nK
    · have j0 : (j : Int) < (nK : Int) := by omega
      have j1 : (0 : Int) ≤ (j : Int) := by omega
      obtain ⟨k, hk⟩ : ∃ k, K[j]? = some k := ⟨_, List.getElem?_eq_getElem (by rw [hnK.out]; exact hjn)⟩
      obtain ⟨s', rfl, hsm⟩ := hKN.out k (List.mem_of_getElem? hk)
      obtain ⟨b, o, rfl, _, _, hrk⟩ := hK.at encU_len j _ hk
      have c1 : wr.cell? ⟨b, o + j, none⟩ = some (.int .u64 (s' : Int)) := by have := hrk 0 _ rfl; simpa using this
      have q1 := Q1 s' aA cA wr hA
      unfold MadeEn at q1
      rw [F3.out s' hsm] at q1
      clear hk hrk hsm
      go_wp2_with fail
      refine q1.mono ?_
      rintro r w5 ⟨⟨aX, cX, rfl, hX⟩, hb⟩
      replace hK := hK.below hb
      replace hA := hA.below hb
      replace hB := below_next hB hb
      clear hb hX c1 q1
      go_wp2_with fail
      exact ⟨⟨j + 1, by omega, by go_num, hK, hA, hB⟩, by simp [intOf]; omega⟩
    · obtain rfl : j = nK := by omega
      clear hK Q1 F3 hKN
      go_upto_region 12 with fail
      go_cut [79] from 66 to 79 (fun v wx => v = .bool false ∧ wx = wr)
      case first =>
        by_cases h0 : nA = 0
        · subst h0
          clear hA hB F1 F5
          go_wp2_with fail
          go_meet
          exact ⟨rfl, rfl⟩
        · have i0 : (0 : Int) < (nA : Int) := by omega
          have hne : A ≠ [] := fun h => h0 (by rw [← hnA.out, h]; rfl)
          obtain ⟨x, hx⟩ : ∃ x, A[nA - 1]? = some x := ⟨_, List.getElem?_eq_getElem (by rw [hnA.out]; omega)⟩
          have hxl : A.getLast? = some x := by rw [List.getLast?_eq_getElem?, hnA.out]; exact hx
          have hm := F4.out x hxl
          subst hm
          obtain ⟨b, o, rfl, _, _, hr⟩ := hA.at En.vals_length (nA - 1) x hx
          have c1 : wr.cell? ⟨b, o + (nA - 1) * 6 + 3, none⟩ = some (.int .u64 (x.se : Int)) := hr 3 _ rfl
          have hnz : (nA : Int) - 1 = ((nA - 1 : Nat) : Int) := by omega
          obtain ⟨z, hz⟩ : ∃ z, nA - 1 = z := ⟨_, rfl⟩
          rw [hz] at c1 hnz
          have z0 : (z : Int) < (nA : Int) := by omega
          have z1 : (0 : Int) ≤ (z : Int) := by omega
          have ex : ((x.se : Int) != (x.se : Int)) = false := by simp
          clear hx hxl hr hA hB F1 F5 hz hne
          go_wp2_with fail
          go_meet
          exact ⟨rfl, rfl⟩
      case rest =>
        obtain ⟨rfl, hW⟩ := ‹_ = Value.bool false ∧ _›
        subst hW
        go_wp2_with fail
        go_loopw [10, 11, 12] (fun dv av iv wr => ∃ (j dn at_ : Nat), j ≤ nA ∧ iv = .int .i64 j ∧ dv = .int .i64 (dn : Int) ∧ av = .int .u64 (at_ : Int) ∧ Hid (dnL l A j = dn ∧ atL l A j = at_) ∧ Li En.vals 0 aA A wr ∧ Below w.heap.size w wr) (fun _ _ iv _ => nA - (intOf iv).toNat)
        case atStart => exact ⟨0, 0, l, by omega, rfl, rfl, rfl, ⟨rfl, rfl⟩, hA, hB⟩
        case round =>
          clear hA hB
          obtain ⟨i, dn, at_, hi, rfl, rfl, rfl, HD, hA, hB⟩ := hrel
          rename World => wr
          by_cases hin : i < nA
          · have i0 : (i : Int) < (nA : Int) := by omega
            have i1 : (0 : Int) ≤ (i : Int) := by omega
            obtain ⟨x, hx⟩ : ∃ x, A[i]? = some x := ⟨_, List.getElem?_eq_getElem (by rw [hnA.out]; exact hin)⟩
            obtain ⟨b, o, rfl, _, _, hr⟩ := hA.at En.vals_length i x hx
            have c1 : wr.cell? ⟨b, o + i * 6 + 3, none⟩ = some (.int .u64 (x.se : Int)) := hr 3 _ rfl
            have hdl := dn_le l A i
            rw [HD.out.1] at hdl
            have hA1 := at_next l A i x hx
            have hD1 := dn_next l A i x hx
            rw [HD.out.1, HD.out.2] at hD1
            by_cases hle : x.se ≤ at_
            · have d3 : (x.se : Int) ≤ (at_ : Int) := by omega
              rw [if_pos hle] at hD1
              have HD1 : Hid (dnL l A (i + 1) = dn + 1 ∧ atL l A (i + 1) = x.se) := ⟨hD1, hA1⟩
              clear hx hr hA1 hD1 hle
              go_wp2_with fail
              exact ⟨⟨i + 1, dn + 1, x.se, by omega, by go_num, by go_num, rfl, HD1, hA, hB⟩, by simp [intOf]; omega⟩
            · have d3 : ¬ (x.se : Int) ≤ (at_ : Int) := by omega
              rw [if_neg hle, Nat.add_zero] at hD1
              have HD1 : Hid (dnL l A (i + 1) = dn ∧ atL l A (i + 1) = x.se) := ⟨hD1, hA1⟩
              clear hx hr hA1 hD1 hle
              go_wp2_with fail
              exact ⟨⟨i + 1, dn, x.se, by omega, by go_num, rfl, rfl, HD1, hA, hB⟩, by simp [intOf]; omega⟩
          · obtain rfl : i = nA := by omega
            have hd1 := F5.out
            rw [HD.out.1] at hd1
            have d4 : (dn : Int) ≤ 1 := by omega
            clear hA
            go_wp2_with fail
            go_ret
            exact ⟨by simp <;> omega, hB⟩

set_option maxRecDepth 100000 in
theorem lifted (os : Go.Os) (started : os.Started) (H : Type) (enc : TypeId × Value → H) :
    ReturnsInHanded {} Try.checked os 5 .any (Rows.schedFairSpec.pre6 enc Try.prog Try.f5 Rows.schedFairRow.domain false) (Rows.schedFairSpec.post enc Try.prog Try.f5 false true false false) := by
  refine returnsInHanded_of_change_sized (C := Try.checked) own started (by kernel_rfl) Try.func5
    (ChangeSpec.witness6 (enc := enc) (C := Try.checked) false ⟨#[], #[.slice none 0 0, .int .u64 0], []⟩ 8 (by kernel_rfl) (by kernel_rfl) (by kernel_rfl) (by kernel_rfl)) ?_
  intro W base args ds gs before hval0 hW hcnd hsz0 _
  have hval : ∀ (j : Nat) t v, Try.f5.params[j]? = some t → args[j]? = some v → Value.okWide Try.prog W .any base t v := hval0
  have hsz : (DataW.weightsEach Try.prog (Try.f5.params.toList ++ Rows.schedFairSpec.plain.varTypes Try.prog) (ds ++ gs)).all (· ≤ reachBytes) = true := hsz0
  have hW' := hW
  obtain ⟨p, q, hA0, hV, rfl, hfz, hnd⟩ := hW
  have hA : DataW.TrodAll enc Try.prog W 0 (fun _ => true) true Try.f5.params.toList args.toList ds p := hA0
  rw [Try.params5] at hA hval hsz

  obtain ⟨v0, vs0, d0, ds0, p0, q0, hargs, rfl, rfl, h0, r0⟩ := trodAll_cons hA
  obtain ⟨v1, vs1, d1, ds1, p1, q1, rfl, rfl, rfl, h1, r1⟩ := trodAll_cons r0
  obtain ⟨rfl, rfl, rfl⟩ := trodAll_nil r1
  obtain rfl : args = #[v0, v1] := by cases args; simp_all
  obtain ⟨rfl, rfl⟩ := trodVars_none hV
  obtain ⟨la0, L0, lc0, rfl, lz0, hc0, hm0, ls0, hS0⟩ := open_EnsW (okWide_slice Try.underlying22 (hval 0 22 v0 rfl rfl)) (fun n hn => of_decide_eq_true (List.all_eq_true.1 hsz _ (DataW.weights_mem_each (j := 0) rfl rfl n hn))) h0
  obtain ⟨a1, rfl, rfl, rfl, w1⟩ := open_int Try.underlying23 (hval 1 23 v1 rfl rfl) h1
  have hA2 := hA0
  clear hA0 hval0 hsz0
  simp only [List.append_nil] at hW'
  refine (walk la0 L0 lc0 lz0 hc0 hm0 ls0 a1 w1 W hS0).mono fun e W' ⟨he, bel⟩ => ?_
  subst he
  exact ⟨_, rfl, _, _, _, [], _, [], hW', trodAll_mk1 (shut_bool Try.underlying4 _), (stays_all laidOut bel (by kernel_rfl) hA2), rfl, bel.frame _, fun h => by cases h⟩

theorem over : Rows.schedFairRow.holds Try.pinned (OpenSpec.ofChange Rows.schedFairSpec) :=
  OpenClaim.holds_of_wide 5 Try.f5 rfl rfl rfl rfl rfl rfl rfl ⟨rfl, rfl, rfl, rfl, rfl⟩ rfl rfl rfl rfl rfl (by kernel_rfl) Try.func5 (by kernel_rfl)
    (of_decide_eq_true (by kernel_rfl)) (by unfold Func.isWrapper; first | (rw [if_pos (by decide +kernel)]; kernel_rfl) | (rw [if_neg (by decide +kernel)]; exact ⟨rfl, rfl⟩))
    (fun os started H enc _ => lifted os started H enc)

end Go.Proofs.Ytkppidcamhbddaa.schedFair
namespace Go.Proofs.Ytkppidcamhbddaa

theorem schedFair_holds : Rows.SchedFairSaid := schedFair.over
#print axioms schedFair_holds

end Go.Proofs.Ytkppidcamhbddaa
