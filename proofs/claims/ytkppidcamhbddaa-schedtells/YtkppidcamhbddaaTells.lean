/-
  Whose turn it is, what is taken, what still waits and which sessions wait is as the document says: the law SchedTells returns true for every input.
  No condition beyond the form's own.
-/
import Derived.Test.YtkppidcamhbddaaRows
import Derived.Test.YtkppidcamhbddaaScP
import Derived.WalkKit
import Derived.ProofKit
import Derived.OpenShut
import Derived.ShutString
import Derived.SizedLaws
import Derived.ChangeOld
import Derived.Below
namespace Go.Proofs.Ytkppidcamhbddaa.schedTells
open Go.Sort Go.ChangeShapes Go.WideShapes Go.ChangeAt Go.RowKit
open Go.ChangeMaps (open_string shut_string)
set_option linter.unusedVariables false
set_option maxRecDepth 10000

theorem own : ownKnob Try.prog.godebug = none := by kernel_rfl
theorem length_bytes (s : ByteArray) : s.data.toList.length = s.size := by rw [Array.length_toList]; rfl

theorem i64_bnd {s : Int} (h : (Lit.int .i64 s).wf = true) : -9223372036854775808 ≤ s ∧ s ≤ 9223372036854775807 := bounds_i64 h
set_option maxHeartbeats 16000000 in
theorem walk (la : Option Addr) (L : List En) (lc : Nat) (lz : L.length * 56 ≤ 140737488351232) (lk : L.length ≤ lc) (lm : lc ≤ maxLen) (ls : ∀ x ∈ L, x.fit) (l0 : Int) (wf : (Lit.int .u64 l0).wf = true) (s : Int) (sw : (Lit.int .i64 s).wf = true) (w : World) (hL : Li En.vals 0 la L w) : Calls Try.prog 3 #[.slice la L.length lc, .int .u64 l0, .int .i64 s] w fun e w' => e = .returned (.bool true) ∧ Below w.heap.size w w' := by
  have hf := fit_ses ls
  obtain ⟨l, rfl, hl⟩ := u64nat wf
  obtain ⟨hs1, hs2⟩ := i64_bnd sw
  by_cases h3 : 300 < L.length
  · have d3 : (300 : Int) < ((L.length : Nat) : Int) := by omega
    have pf := fixed_ok w
    generalize L.length = n at d3 lk ⊢
    clear ls lz hL hf h3
    go_enter Try.func3, Try.ntmps3
    go_wp2_with fail
    refine pf.mono ?_
    rintro r w1 ⟨rfl, hb⟩
    clear pf
    go_wp2_with fail
    go_ret
    exact ⟨rfl, hb⟩
  · have lm3 : L.length ≤ 300 := by omega
    have hB := Below.refl w.heap.size w
    have p1 := turn_ok L l hf hl la lc (by omega)
    have p2 := rturn_ok L l la lc lm3
    have p3 := fill_ok L l s hf hl ⟨hs1, hs2⟩ la lc lm3
    have p4 := rfill_ok L l s ⟨hs1, hs2⟩ la lc lm3 lk
    have p5 := sess_ok L la lc lz
    have p6 := rsess_ok L la lc lm3
    obtain ⟨i, b, hv⟩ := turnV_ex (turnS L l)
    rw [hv] at p1 p2
    have hlen := fillS_lens (manyS s) L l
    have hln := sess_len L
    rw [← sessI_len] at hln
    generalize fillS (manyS s) L l = Z at p3 p4 hlen
    obtain ⟨A, R, m⟩ := Z
    simp only at hlen
    unfold Filled at p3 p4
    simp only at p3 p4
    have q1 := fun a b c d => ents_ok A a b c d (by omega)
    have q2 := fun a b c d => ents_ok R a b c d (by omega)
    have q3 := fun a b c d => rsame_ok (sessI L) a b c d (by omega)
    unfold MadeU at p5 p6
    generalize A.length = nA at p3 p4 q1
    generalize R.length = nR at p3 p4 q2
    generalize sessI L = K at p5 p6 q3
    generalize K.length = nK at p5 p6 q3
    have d3 : ¬ (300 : Int) < ((L.length : Nat) : Int) := by omega
    obtain ⟨n, hn⟩ : ∃ n, Hid (L.length = n) := ⟨_, rfl⟩
    rw [hn.out] at p1 p2 p3 p4 p5 p6 d3 ⊢
    clear ls lz hf hv hlen hln h3 lk lm3
    go_enter Try.func3, Try.ntmps3
    go_wp2_with fail
    refine (p1 _ hL).mono ?_
    rintro r wq ⟨rfl, hb⟩
    replace hL := hL.below hb
    replace hB := below_next hB hb
    clear hb
    go_wp2_with fail
    refine (p2 _ hL).mono ?_
    rintro r wq ⟨rfl, hb⟩
    replace hL := hL.below hb
    replace hB := below_next hB hb
    clear hb
    go_wp2_with fail
    refine (p3 _ hL).mono ?_
    rintro r wq ⟨⟨aA, cA, aR, cR, rfl, hA, hR⟩, hb⟩
    replace hL := hL.below hb
    replace hB := below_next hB hb
    clear hb
    go_wp2_with fail
    refine (p4 _ hL).mono ?_
    rintro r wq ⟨⟨aD, cD, aE, cE, rfl, hD, hE⟩, hb⟩
    replace hL := hL.below hb
    replace hA := hA.below hb
    replace hR := hR.below hb
    replace hB := below_next hB hb
    clear hb
    go_wp2_with fail
    refine (fixed_ok _).mono ?_
    rintro r wq ⟨rfl, hb⟩
    replace hL := hL.below hb
    replace hA := hA.below hb
    replace hR := hR.below hb
    replace hD := hD.below hb
    replace hE := hE.below hb
    replace hB := below_next hB hb
    clear hb
    go_wp2_with fail
    refine (q1 _ _ _ _ _ hA hD).mono ?_
    rintro r wq ⟨rfl, hb⟩
    replace hL := hL.below hb
    replace hR := hR.below hb
    replace hE := hE.below hb
    replace hB := below_next hB hb
    clear hb
    go_wp2_with fail
    refine (q2 _ _ _ _ _ hR hE).mono ?_
    rintro r wq ⟨rfl, hb⟩
    replace hL := hL.below hb
    replace hB := below_next hB hb
    clear hb
    go_wp2_with fail
    refine (p5 _ hL).mono ?_
    rintro r wq ⟨⟨aS, cS, rfl, hS⟩, hb⟩
    replace hL := hL.below hb
    replace hB := below_next hB hb
    clear hb
    go_wp2_with fail
    refine (p6 _ hL).mono ?_
    rintro r wq ⟨⟨aT, cT, rfl, hT⟩, hb⟩
    replace hS := hS.below hb
    replace hB := below_next hB hb
    clear hb
    go_wp2_with fail
    refine (q3 _ _ _ _ _ hS hT).mono ?_
    rintro r wq ⟨rfl, hb⟩
    replace hB := below_next hB hb
    clear hb
    go_wp2_with fail
    go_ret
    exact ⟨rfl, hB⟩

set_option maxRecDepth 100000 in
theorem lifted (os : Go.Os) (started : os.Started) (H : Type) (enc : TypeId × Value → H) :
    ReturnsInHanded {} Try.checked os 3 .any (Rows.schedTellsSpec.pre6 enc Try.prog Try.f3 Rows.schedTellsRow.domain false) (Rows.schedTellsSpec.post enc Try.prog Try.f3 false true false false) := by
  refine returnsInHanded_of_change_sized (C := Try.checked) own started (by kernel_rfl) Try.func3
    (ChangeSpec.witness6 (enc := enc) (C := Try.checked) false ⟨#[], #[.slice none 0 0, .int .u64 0, .int .i64 0], []⟩ 8 (by kernel_rfl) (by kernel_rfl) (by kernel_rfl) (by kernel_rfl)) ?_
  intro W base args ds gs before hval0 hW hcnd hsz0 _
  have hval : ∀ (j : Nat) t v, Try.f3.params[j]? = some t → args[j]? = some v → Value.okWide Try.prog W .any base t v := hval0
  have hsz : (DataW.weightsEach Try.prog (Try.f3.params.toList ++ Rows.schedTellsSpec.plain.varTypes Try.prog) (ds ++ gs)).all (· ≤ reachBytes) = true := hsz0
  have hW' := hW
  obtain ⟨p, q, hA0, hV, rfl, hfz, hnd⟩ := hW
  have hA : DataW.TrodAll enc Try.prog W 0 (fun _ => true) true Try.f3.params.toList args.toList ds p := hA0
  rw [Try.params3] at hA hval hsz

  obtain ⟨v0, vs0, d0, ds0, p0, q0, hargs, rfl, rfl, h0, r0⟩ := trodAll_cons hA
  obtain ⟨v1, vs1, d1, ds1, p1, q1, rfl, rfl, rfl, h1, r1⟩ := trodAll_cons r0
  obtain ⟨v2, vs2, d2, ds2, p2, q2, rfl, rfl, rfl, h2, r2⟩ := trodAll_cons r1
  obtain ⟨rfl, rfl, rfl⟩ := trodAll_nil r2
  obtain rfl : args = #[v0, v1, v2] := by cases args; simp_all
  obtain ⟨rfl, rfl⟩ := trodVars_none hV
  obtain ⟨la0, L0, lc0, rfl, lz0, hc0, hm0, ls0, hS0⟩ := open_EnsW (okWide_slice Try.underlying22 (hval 0 22 v0 rfl rfl)) (fun n hn => of_decide_eq_true (List.all_eq_true.1 hsz _ (DataW.weights_mem_each (j := 0) rfl rfl n hn))) h0
  obtain ⟨a1, rfl, rfl, rfl, w1⟩ := open_int Try.underlying23 (hval 1 23 v1 rfl rfl) h1
  obtain ⟨a2, rfl, rfl, rfl, w2⟩ := open_int Try.underlying3 (hval 2 3 v2 rfl rfl) h2
  have hA2 := hA0
  clear hA0 hval0 hsz0
  simp only [List.append_nil] at hW'
  refine (walk la0 L0 lc0 lz0 hc0 hm0 ls0 a1 w1 a2 w2 W hS0).mono fun e W' ⟨he, bel⟩ => ?_
  subst he
  exact ⟨_, rfl, _, _, _, [], _, [], hW', trodAll_mk1 (shut_bool Try.underlying4 _), (stays_all laidOut bel (by kernel_rfl) hA2), rfl, bel.frame _, fun h => by cases h⟩

theorem over : Rows.schedTellsRow.holds Try.pinned (OpenSpec.ofChange Rows.schedTellsSpec) :=
  OpenClaim.holds_of_wide 3 Try.f3 rfl rfl rfl rfl rfl rfl rfl ⟨rfl, rfl, rfl, rfl, rfl⟩ rfl rfl rfl rfl rfl (by kernel_rfl) Try.func3 (by kernel_rfl)
    (of_decide_eq_true (by kernel_rfl)) (by unfold Func.isWrapper; first | (rw [if_pos (by decide +kernel)]; kernel_rfl) | (rw [if_neg (by decide +kernel)]; exact ⟨rfl, rfl⟩))
    (fun os started H enc _ => lifted os started H enc)

end Go.Proofs.Ytkppidcamhbddaa.schedTells
namespace Go.Proofs.Ytkppidcamhbddaa

theorem schedTells_holds : Rows.SchedTellsSaid := schedTells.over
#print axioms schedTells_holds

end Go.Proofs.Ytkppidcamhbddaa
