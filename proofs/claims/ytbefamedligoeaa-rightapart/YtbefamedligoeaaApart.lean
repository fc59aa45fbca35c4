/-
  What is done with one handle changes nothing of what the others give: the law RightApart returns true for every input.
  No condition beyond the form's own.
-/
import Derived.Test.YtbefamedligoeaaRows
import Derived.Test.YtbefamedligoeaaRtN
import Derived.WalkKit
import Derived.ProofKit
import Derived.OpenShut
import Derived.ShutString
import Derived.SizedLaws
import Derived.ChangeOld
import Derived.Below
namespace Go.Proofs.Ytbefamedligoeaa.rightApart
open Go.Sort Go.ChangeShapes Go.WideShapes Go.ChangeAt Go.RowKit
open Go.ChangeMaps (open_string shut_string)
set_option linter.unusedVariables false
set_option maxRecDepth 10000

theorem own : ownKnob Try.prog.godebug = none := by kernel_rfl
theorem length_bytes (s : ByteArray) : s.data.toList.length = s.size := by rw [Array.length_toList]; rfl

set_option maxHeartbeats 8000000 in
theorem walk (la : Option Addr) (L : List Ri) (lc : Nat) (lz : L.length * 32 ≤ 140737488351232) (lk : L.length ≤ lc) (lm : lc ≤ maxLen) (ls : ∀ x ∈ L, x.fit) (x : Dx) (kx : x.fit) (y : Dx) (ky : y.fit) (w : World) (hL : Li Ri.vals 0 la L w) :
    Calls Try.prog 5 #[.slice la L.length lc, .agg x.arr, .agg y.arr] w fun e w' => e = .returned (.bool true) ∧ Below w.heap.size w w' := by
  obtain ⟨a1, a2, hB⟩ := two_blk (T0 := 25) (T1 := 25) (C0 := x.arr) (C1 := y.arr) (w := w) rfl
  have pM := may_ok L la lc (by omega)
  have pC := check_ok y.h y.g L la lc (by omega)
  have pD := done_ok x L la lc lz
  have hdone : mayT L = true → x.d ≠ 2 → y.h ≠ x.h → chkR y.h y.g (doneL L x) = chkR y.h y.g L ∧ mayT (doneL L x) = true := fun h1 h2 h3 => by
    have hm := (may_iff L).1 h1
    exact ⟨chk_done hm x y.h y.g (fun q => h3 q.symm) h2, (may_iff _).2 (may_done hm x)⟩
  have hlen : mayT L = true → (doneL L x).length ≤ 16 := fun h1 => (may_done ((may_iff L).1 h1) x).1
  obtain ⟨D, hD⟩ : ∃ D, Hid (doneL L x = D) := ⟨_, rfl⟩
  rw [hD.out] at pD hdone hlen
  have pC2 := fun h a c w hl => check_ok y.h y.g D a c h w hl
  have pM2 := fun h a c w hl => may_ok D a c h w hl
  obtain ⟨nd, hnd⟩ : ∃ nd, Hid (D.length = nd) := ⟨_, rfl⟩
  obtain ⟨n, hn⟩ : ∃ n, Hid (L.length = n) := ⟨_, rfl⟩
  unfold Dn at pD
  rw [hnd.out] at pD hlen pC2 pM2
  rw [hn.out] at pM pC pD ⊢
  go_enter Try.func5, Try.ntmps5
  go_upto_region 1 with fail
  try simp only [Act.put]
  generalize (w.alloc (Obj.cells x.arr 25)).alloc (Obj.cells y.arr 25) = w0 at a1 a2 hB ⊢
  generalize hX : w.heap.size + 1 = Y at a2 ⊢
  have q1 : w0.cell? ⟨Y, 1, none⟩ = some (.int .u64 (y.h : Int)) := a2.cell 1 _ rfl
  have q3 : w0.cell? ⟨Y, 3, none⟩ = some (.int .i64 y.g) := a2.cell 3 _ rfl
  clear hX
  go_region
  have hb := Below.drew (Below.refl w0.heap.size w0)
  replace a1 := a1.below hb
  replace hB := below_next hB hb
  generalize w0.drew = w1 at hb a1 hB ⊢
  clear hb q1 q3 a2
  go_wp2_with fail
  refine (fixed_ok _).mono ?_
  rintro r w2 ⟨rfl, hb⟩
  replace a1 := a1.below hb
  replace hB := below_next hB hb
  clear hb
  go_wp2_with fail
  refine (pM w2 (hL.below hB)).mono ?_
  rintro r w3 ⟨rfl, hb⟩
  replace a1 := a1.below hb
  replace hB := below_next hB hb
  clear hb pM
  have c0 : w3.cell? ⟨w.heap.size, 0, none⟩ = some (.int .i64 x.d) := a1.cell 0 _ rfl
  have c1 : w3.cell? ⟨w.heap.size, 1, none⟩ = some (.int .u64 (x.h : Int)) := a1.cell 1 _ rfl
  cases hm : mayT L with
  | false =>
    clear pC pD pC2 pM2 hdone hlen hm a1
    go_wp2_with fail
    refine (fixed_ok _).mono ?_
    rintro r w9 ⟨rfl, hb⟩
    replace hB := below_next hB hb
    clear hb
    go_wp2_with fail
    go_ret
    exact ⟨rfl, hB⟩
  | true =>
    by_cases h1 : y.h = x.h
    · have d1 : ((y.h : Int) == (x.h : Int)) = true := by simp [h1]
      clear pC pD pC2 pM2 hdone hlen hm a1 h1
      go_wp2_with fail
      refine (fixed_ok _).mono ?_
      rintro r w9 ⟨rfl, hb⟩
      replace hB := below_next hB hb
      clear hb
      go_wp2_with fail
      go_ret
      exact ⟨rfl, hB⟩
    · have d1 : ((y.h : Int) == (x.h : Int)) = false := by rw [beq_eq_false_iff_ne]; omega
      by_cases h2 : x.d = 2
      · have d2 : (x.d == 2) = true := by simp [h2]
        clear pC pD pC2 pM2 hdone hlen hm a1 h1 h2
        go_wp2_with fail
        refine (fixed_ok _).mono ?_
        rintro r w9 ⟨rfl, hb⟩
        replace hB := below_next hB hb
        clear hb
        go_wp2_with fail
        go_ret
        exact ⟨rfl, hB⟩
      · have d2 : (x.d == 2) = false := by simpa using h2
        obtain ⟨e1, e2⟩ := hdone hm h2 h1
        have hl := hlen hm
        replace pC2 := pC2 (by omega)
        replace pM2 := pM2 (by omega)
        rw [e1] at pC2
        rw [e2] at pM2
        generalize chkE (chkR y.h y.g L) = k1 at pC pC2
        generalize (chkR y.h y.g L).getD 0 = k2 at pC pC2
        clear e1 e2 hdone hlen hm h1 h2
        go_wp2_with fail
        refine (pC w3 (hL.below hB)).mono ?_
        rintro r w4 ⟨rfl, hb⟩
        replace a1 := a1.below hb
        replace hB := below_next hB hb
        clear hb pC c0 c1
        go_wp2_with (refine load_blk rfl 25 _ rfl a1 rfl Try.underlying25 rfl sizeDx ?_)
        refine (pD w4 (hL.below hB)).mono ?_
        rintro r w5 ⟨⟨a5, c5, rfl, _, h5⟩, hb⟩
        replace a1 := a1.below hb
        replace hB := below_next hB hb
        have hl5 : Li Ri.vals 0 a5 D w5 := by
          rcases h5 with ⟨rfl, rfl, rfl⟩ | h5
          · exact hL.below hB
          · exact h5.li.mono (Nat.zero_le _)
        clear hb h5
        go_wp2_with fail
        refine (pC2 a5 c5 w5 hl5).mono ?_
        rintro r w6 ⟨rfl, hb⟩
        replace a1 := a1.below hb
        replace hB := below_next hB hb
        clear hb pC2 hl5
        go_wp2_with (first | refine load_want rfl 25 _ rfl a1 rfl Try.underlying25 rfl sizeDx ?_ | refine load_blk rfl 25 _ rfl a1 rfl Try.underlying25 rfl sizeDx ?_)
        refine (pD w6 (hL.below hB)).mono ?_
        rintro r w7 ⟨⟨a7, c7, rfl, _, h7⟩, hb⟩
        replace hB := below_next hB hb
        have hl7 : Li Ri.vals 0 a7 D w7 := by
          rcases h7 with ⟨rfl, rfl, rfl⟩ | h7
          · exact hL.below hB
          · exact h7.li.mono (Nat.zero_le _)
        clear hb h7
        go_wp2_with fail
        refine (pM2 a7 c7 w7 hl7).mono ?_
        rintro r w8 ⟨rfl, hb⟩
        replace hB := below_next hB hb
        clear hb pM2 hl7
        go_wp2_with fail
        go_ret
        exact ⟨rfl, hB⟩

set_option maxRecDepth 100000 in
theorem lifted (os : Go.Os) (started : os.Started) (H : Type) (enc : TypeId × Value → H) :
    ReturnsInHanded {} Try.checked os 5 .any (Rows.rightApartSpec.pre6 enc Try.prog Try.f5 Rows.rightApartRow.domain false) (Rows.rightApartSpec.post enc Try.prog Try.f5 false true false false) := by
  refine returnsInHanded_of_change_sized (C := Try.checked) own started (by kernel_rfl) Try.func5
    (ChangeSpec.witness6 (enc := enc) (C := Try.checked) false ⟨#[], #[.slice none 0 0, .agg Dx.zero.arr, .agg Dx.zero.arr], []⟩ 8 (by kernel_rfl) (by kernel_rfl) (by kernel_rfl) (by kernel_rfl)) ?_
  intro W base args ds gs before hval0 hW hcnd hsz0 _
  have hval : ∀ (j : Nat) t v, Try.f5.params[j]? = some t → args[j]? = some v → Value.okWide Try.prog W .any base t v := hval0
  have hsz : (DataW.weightsEach Try.prog (Try.f5.params.toList ++ Rows.rightApartSpec.plain.varTypes Try.prog) (ds ++ gs)).all (· ≤ reachBytes) = true := hsz0
  have hW' := hW
  obtain ⟨p, q, hA0, hV, rfl, hfz, hnd⟩ := hW
  have hA : DataW.TrodAll enc Try.prog W 0 (fun _ => true) true Try.f5.params.toList args.toList ds p := hA0
  rw [Try.params5] at hA hval hsz

  obtain ⟨v0, vs0, d0, ds0, p0, q0, hargs, rfl, rfl, h0, r0⟩ := trodAll_cons hA
  obtain ⟨v1, vs1, d1, ds1, p1, q1, rfl, rfl, rfl, h1, r1⟩ := trodAll_cons r0
  obtain ⟨v2, vs2, d2, ds2, p2, q2, rfl, rfl, rfl, h2, r2⟩ := trodAll_cons r1
  obtain ⟨rfl, rfl, rfl⟩ := trodAll_nil r2
  obtain rfl : args = #[v0, v1, v2] := by cases args; simp_all
  obtain ⟨rfl, rfl⟩ := trodVars_none hV
  obtain ⟨la0, L0, lc0, rfl, lz0, hc0, hm0, ls0, hS0⟩ := open_Ris (okWide_slice Try.underlying22 (hval 0 22 v0 rfl rfl)) (fun n hn => of_decide_eq_true (List.all_eq_true.1 hsz _ (DataW.weights_mem_each (j := 0) rfl rfl n hn))) h0
  obtain ⟨x1, rfl, kx1⟩ := open_Dx (by obtain ⟨cs, h1, _⟩ := okWide_struct Try.underlying25 (hval 1 25 v1 rfl rfl); exact ⟨cs, h1⟩) (fun n hn => of_decide_eq_true (List.all_eq_true.1 hsz _ (DataW.weights_mem_each (j := 1) rfl rfl n hn))) h1
  obtain ⟨x2, rfl, kx2⟩ := open_Dx (by obtain ⟨cs, h1, _⟩ := okWide_struct Try.underlying25 (hval 2 25 v2 rfl rfl); exact ⟨cs, h1⟩) (fun n hn => of_decide_eq_true (List.all_eq_true.1 hsz _ (DataW.weights_mem_each (j := 2) rfl rfl n hn))) h2
  have hA2 := hA0
  clear hA0 hval0 hsz0
  simp only [List.append_nil] at hW'
  refine (walk la0 L0 lc0 lz0 hc0 hm0 ls0 x1 kx1 x2 kx2 W hS0).mono fun e W' ⟨he, bel⟩ => ?_
  subst he
  exact ⟨_, rfl, _, _, _, [], _, [], hW', trodAll_mk1 (shut_bool Try.underlying4 _), (stays_all laidOut bel (by kernel_rfl) hA2), rfl, bel.frame _, fun h => by cases h⟩

theorem over : Rows.rightApartRow.holds Try.pinned (OpenSpec.ofChange Rows.rightApartSpec) :=
  OpenClaim.holds_of_wide 5 Try.f5 rfl rfl rfl rfl rfl rfl rfl ⟨rfl, rfl, rfl, rfl, rfl⟩ rfl rfl rfl rfl rfl (by kernel_rfl) Try.func5 (by kernel_rfl)
    (of_decide_eq_true (by kernel_rfl)) (by unfold Func.isWrapper; first | (rw [if_pos (by decide +kernel)]; kernel_rfl) | (rw [if_neg (by decide +kernel)]; exact ⟨rfl, rfl⟩))
    (fun os started H enc _ => lifted os started H enc)

end Go.Proofs.Ytbefamedligoeaa.rightApart
namespace Go.Proofs.Ytbefamedligoeaa

theorem rightApart_holds : Rows.RightApartSaid := rightApart.over
#print axioms rightApart_holds

end Go.Proofs.Ytbefamedligoeaa
