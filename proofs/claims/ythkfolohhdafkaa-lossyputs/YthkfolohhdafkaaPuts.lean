/-
  Letters that are put at once, or one part behind the other, are the same: the law LossyPuts returns true for every input.
  No condition beyond the form's own.
-/
import Derived.Test.YthkfolohhdafkaaRows
import Derived.Test.YthkfolohhdafkaaLeF
import Derived.WalkKit
import Derived.ProofKit
import Derived.OpenShut
import Derived.ShutString
import Derived.SizedLaws
import Derived.ChangeOld
import Derived.Below
namespace Go.Proofs.Ythkfolohhdafkaa.lossyPuts
open Go.Sort Go.ChangeShapes Go.WideShapes Go.ChangeAt Go.RowKit
open Go.ChangeMaps (open_string shut_string)
set_option linter.unusedVariables false
set_option maxRecDepth 10000

theorem own : ownKnob Try.prog.godebug = none := by kernel_rfl
theorem length_bytes (s : ByteArray) : s.data.toList.length = s.size := by rw [Array.length_toList]; rfl

theorem put_all (L X : List Le) (h : L.length + X.length ≤ 4096) : putL L X = L ++ X := by
  unfold putL
  rw [List.take_of_length_le (by omega), List.take_of_length_le (by omega)]

set_option maxHeartbeats 4000000 in
theorem walk (la : Option Addr) (L : List Le) (lc : Nat) (lz : L.length * 40 ≤ 140737488351232) (lk : L.length ≤ lc) (lm : lc ≤ maxLen) (ls : ∀ x ∈ L, x.small) (aa : Option Addr) (A : List Le) (ac : Nat) (az : A.length * 40 ≤ 140737488351232) (ak : A.length ≤ ac) (am : ac ≤ maxLen) (asm : ∀ x ∈ A, x.small) (ba : Option Addr) (B : List Le) (bc : Nat) (bz : B.length * 40 ≤ 140737488351232) (bk : B.length ≤ bc) (bm : bc ≤ maxLen) (bs : ∀ x ∈ B, x.small) (w : World) (hL : Li Le.vals 0 la L w) (hA : Li Le.vals 0 aa A w) (hC : Li Le.vals 0 ba B w) :
    Calls Try.prog 7 #[.slice la L.length lc, .slice aa A.length ac, .slice ba B.length bc] w fun e w' => e = .returned (.bool true) ∧ Below w.heap.size w w' := by
  obtain ⟨iI, zI, hI, hz0, hsz, hby, hzs⟩ := infoLe
  obtain ⟨n, hn⟩ : ∃ n, Hid (L.length = n) := ⟨_, rfl⟩
  obtain ⟨p, hp⟩ : ∃ p, Hid (A.length = p) := ⟨_, rfl⟩
  obtain ⟨q, hq⟩ : ∃ q, Hid (B.length = q) := ⟨_, rfl⟩
  obtain ⟨P, hP⟩ : ∃ P, Hid (L ++ A = P) := ⟨_, rfl⟩
  obtain ⟨Q, hQ⟩ : ∃ Q, Hid (A ++ B = Q) := ⟨_, rfl⟩
  obtain ⟨R, hR⟩ : ∃ R, Hid (L ++ Q = R) := ⟨_, rfl⟩
  obtain ⟨np, HP⟩ : ∃ np, Hid (P.length = np) := ⟨_, rfl⟩
  obtain ⟨nr, HR⟩ : ∃ nr, Hid (R.length = nr) := ⟨_, rfl⟩
  rw [hn.out] at lz lk
  rw [hp.out] at az ak
  rw [hq.out] at bz bk
  rw [hn.out, hp.out, hq.out]
  go_enter Try.func7, Try.ntmps7
  go_wp2_with fail
  refine (fixed_ok w).mono ?_
  rintro r w1 ⟨rfl, hB⟩
  by_cases h1 : 300 < n
  · have d1 : (300 : Int) < (n : Int) := by omega
    go_wp2_with fail
    refine (fixed_ok _).mono ?_
    rintro r w2 ⟨rfl, hb⟩
    replace hB := below_next hB hb
    clear hb
    go_wp2_with fail
    go_ret
    exact ⟨rfl, hB⟩
  have d1 : ¬ (300 : Int) < (n : Int) := by omega
  by_cases h2 : 300 < p
  · have d2 : (300 : Int) < (p : Int) := by omega
    go_wp2_with fail
    refine (fixed_ok _).mono ?_
    rintro r w2 ⟨rfl, hb⟩
    replace hB := below_next hB hb
    clear hb
    go_wp2_with fail
    go_ret
    exact ⟨rfl, hB⟩
  have d2 : ¬ (300 : Int) < (p : Int) := by omega
  by_cases h3 : 300 < q
  · have d3 : (300 : Int) < (q : Int) := by omega
    go_wp2_with fail
    refine (fixed_ok _).mono ?_
    rintro r w2 ⟨rfl, hb⟩
    replace hB := below_next hB hb
    clear hb
    go_wp2_with fail
    go_ret
    exact ⟨rfl, hB⟩
  have d3 : ¬ (300 : Int) < (q : Int) := by omega
  have o0 := Lg.of (Ow.empty (f := Le.vals) (k := 4) (blk_new w1 #[] 27)) hB.size
  have hb := below_box w1 (.cells #[] 27)
  have hB0 := below_next hB hb
  go_upto_region 4 with (go_big_may; first
    | refine box_le0 rfl rfl ?_
    | (refine append_any Le.vals_length rfl _ _ rfl Try.underlying22 hI hz0 hsz hby hzs o0 hB0.size (n := 0) rfl rfl (M := A) hp.out ((hA.below hB0).src Le.vals_length Le.vals_one Try.underlying22 ac) (by rw [hp.out]; rfl) (by omega) (by simp only [maxLen]; omega) ?_; intro a3 c3 W3 o3 k3 _; have hB3 : Below w.heap.size w W3 := hB0.trans (k3.below (fun k hk => (o0.in k hk).1) hB0.size); simp only [Nat.zero_add])
    | (refine append_any Le.vals_length rfl _ _ rfl Try.underlying22 hI hz0 hsz hby hzs o3 hB3.size (n := p) (by simp [hp.out]) rfl (M := B) hq.out ((hC.below hB3).src Le.vals_length Le.vals_one Try.underlying22 bc) (by rw [hq.out]; rfl) (by omega) (by simp only [maxLen]; omega) ?_; intro a4 c4 W4 o4 k4 _; have hB4 : Below w.heap.size w W4 := hB3.trans (k4.below (fun k hk => (o3.in k hk).1) hB3.size)))
  try simp only [Act.put]
  have hnp : np = n + p := by rw [← HP.out, ← hP.out, List.length_append, hn.out, hp.out]
  have hnr : nr = n + (p + q) := by rw [← HR.out, ← hR.out, ← hQ.out, List.length_append, List.length_append, hn.out, hp.out, hq.out]
  have hnq : Q.length = p + q := by rw [← hQ.out, List.length_append, hp.out, hq.out]
  have pP1 : n + p ≤ 600 → ∀ w, Li Le.vals 0 la L w → Li Le.vals 0 aa A w → Calls Try.prog 16 #[.slice la n lc, .slice aa p ac] w fun e w' => (∃ a c, e = .returned (.slice a np c) ∧ Lg Le.vals 4 27 w.heap.size a c P w') ∧ Below w.heap.size w w' := fun h6 w h1 h2 => by
    have h := lput_ok L A la aa lc ac (by rw [hn.out]; exact lz) (by rw [hp.out]; exact az) (by rw [hn.out]; exact lk) (by rw [hp.out]; exact ak) w h1 h2
    unfold MadeL at h
    rw [put_all L A (by rw [hn.out, hp.out]; omega), hP.out, hn.out, hp.out, HP.out] at h
    exact h
  have pP2 : np + q ≤ 900 → ∀ a c, np ≤ c → ∀ w, Li Le.vals 0 a P w → Li Le.vals 0 ba B w → Calls Try.prog 16 #[.slice a np c, .slice ba q bc] w fun e w' => (∃ a c, e = .returned (.slice a nr c) ∧ Lg Le.vals 4 27 w.heap.size a c R w') ∧ Below w.heap.size w w' := fun h6 a c hc w h1 h2 => by
    have h := lput_ok P B a ba c bc (by rw [HP.out]; omega) (by rw [hq.out]; exact bz) (by rw [HP.out]; exact hc) (by rw [hq.out]; exact bk) w h1 h2
    unfold MadeL at h
    rw [put_all P B (by rw [HP.out, hq.out]; omega), show P ++ B = R by rw [← hP.out, ← hR.out, ← hQ.out, List.append_assoc], HP.out, hq.out, HR.out] at h
    exact h
  have pP3 : n + (p + q) ≤ 900 → ∀ a c, p + q ≤ c → ∀ w, Li Le.vals 0 la L w → Li Le.vals 0 a Q w → Calls Try.prog 16 #[.slice la n lc, .slice a (p + q) c] w fun e w' => (∃ a c, e = .returned (.slice a nr c) ∧ Lg Le.vals 4 27 w.heap.size a c R w') ∧ Below w.heap.size w w' := fun h6 a c hc w h1 h2 => by
    have h := lput_ok L Q la a lc c (by rw [hn.out]; exact lz) (by rw [hnq]; omega) (by rw [hn.out]; exact lk) (by rw [hnq]; exact hc) w h1 h2
    unfold MadeL at h
    rw [put_all L Q (by rw [hn.out, hnq]; omega), hR.out, hn.out, hnq, HR.out] at h
    exact h
  have pS : nr ≤ 900 → ∀ a b c d w, Li Le.vals 0 a R w → Li Le.vals 0 b R w → Calls Try.prog 12 #[.slice a nr c, .slice b nr d] w fun e w' => e = .returned (.bool true) ∧ Below w.heap.size w w' := fun h6 a b c d w h1 h2 => by
    have h := lsame_ok R a b c d (by rw [HR.out]; omega) w h1 h2
    rw [HR.out] at h
    exact h
  rw [List.nil_append, hQ.out] at o4
  have hc4 := o4.cap
  rw [hnq] at hc4
  have pP1' := pP1 (by omega)
  have pP2' := pP2 (by omega)
  have pP3' := pP3 (by omega)
  have pS' := pS (by omega)
  have e9 : ((nr : Int) == (n : Int) + ((p : Int) + (q : Int))) = true := by rw [beq_iff_eq]; omega
  clear pP1 pP2 pP3 pS hnr hnp d1 d2 d3 hnq h1 h2 h3
  replace o4 := o4.li.mono (Nat.zero_le _)
  clear o3 o0 k3 k4 hB3 hB0 hB hb
  go_wp2_with fail
  refine (pP1' W4 (hL.below hB4) (hA.below hB4)).mono ?_
  rintro r w5 ⟨⟨a5, c5, rfl, o5⟩, hb⟩
  replace o4 := o4.below hb
  replace hB4 := below_next hB4 hb
  have hc5 := o5.cap
  rw [HP.out] at hc5
  clear hb pP1'
  go_wp2_with fail
  refine (pP2' a5 c5 hc5 w5 (o5.li.mono (Nat.zero_le _)) (hC.below hB4)).mono ?_
  rintro r w6 ⟨⟨a6, c6, rfl, o6⟩, hb⟩
  replace o4 := o4.below hb
  replace hB4 := below_next hB4 hb
  clear hb pP2' o5
  go_wp2_with fail
  refine (pP3' a4 c4 hc4 w6 (hL.below hB4) o4).mono ?_
  rintro r w7 ⟨⟨a7, c7, rfl, o7⟩, hb⟩
  replace o6 := o6.below hb
  replace hB4 := below_next hB4 hb
  clear hb pP3' o4
  go_wp2_with fail
  refine (pS' a6 a7 c6 c7 w7 (o6.li.mono (Nat.zero_le _)) (o7.li.mono (Nat.zero_le _))).mono ?_
  rintro r w8 ⟨rfl, hb⟩
  replace hB4 := below_next hB4 hb
  clear hb pS'
  go_wp2_with fail
  go_ret
  exact ⟨rfl, hB4⟩

set_option maxRecDepth 100000 in
theorem lifted (os : Go.Os) (started : os.Started) (H : Type) (enc : TypeId × Value → H) :
    ReturnsInHanded {} Try.checked os 7 .any (Rows.lossyPutsSpec.pre6 enc Try.prog Try.f7 Rows.lossyPutsRow.domain false) (Rows.lossyPutsSpec.post enc Try.prog Try.f7 false true false false) := by
  refine returnsInHanded_of_change_sized (C := Try.checked) own started (by kernel_rfl) Try.func7
    (ChangeSpec.witness6 (enc := enc) (C := Try.checked) false ⟨#[], #[.slice none 0 0, .slice none 0 0, .slice none 0 0], []⟩ 8 (by kernel_rfl) (by kernel_rfl) (by kernel_rfl) (by kernel_rfl)) ?_
  intro W base args ds gs before hval0 hW hcnd hsz0 _
  have hval : ∀ (j : Nat) t v, Try.f7.params[j]? = some t → args[j]? = some v → Value.okWide Try.prog W .any base t v := hval0
  have hsz : (DataW.weightsEach Try.prog (Try.f7.params.toList ++ Rows.lossyPutsSpec.plain.varTypes Try.prog) (ds ++ gs)).all (· ≤ reachBytes) = true := hsz0
  have hW' := hW
  obtain ⟨p, q, hA0, hV, rfl, hfz, hnd⟩ := hW
  have hA : DataW.TrodAll enc Try.prog W 0 (fun _ => true) true Try.f7.params.toList args.toList ds p := hA0
  rw [Try.params7] at hA hval hsz

  obtain ⟨v0, vs0, d0, ds0, p0, q0, hargs, rfl, rfl, h0, r0⟩ := trodAll_cons hA
  obtain ⟨v1, vs1, d1, ds1, p1, q1, rfl, rfl, rfl, h1, r1⟩ := trodAll_cons r0
  obtain ⟨v2, vs2, d2, ds2, p2, q2, rfl, rfl, rfl, h2, r2⟩ := trodAll_cons r1
  obtain ⟨rfl, rfl, rfl⟩ := trodAll_nil r2
  obtain rfl : args = #[v0, v1, v2] := by cases args; simp_all
  obtain ⟨rfl, rfl⟩ := trodVars_none hV
  obtain ⟨la0, L0, lc0, rfl, lz0, hc0, hm0, ls0, hS0⟩ := open_les (okWide_slice Try.underlying22 (hval 0 22 v0 rfl rfl)) (fun n hn => of_decide_eq_true (List.all_eq_true.1 hsz _ (DataW.weights_mem_each (j := 0) rfl rfl n hn))) h0
  obtain ⟨la1, L1, lc1, rfl, lz1, hc1, hm1, ls1, hS1⟩ := open_les (okWide_slice Try.underlying22 (hval 1 22 v1 rfl rfl)) (fun n hn => of_decide_eq_true (List.all_eq_true.1 hsz _ (DataW.weights_mem_each (j := 1) rfl rfl n hn))) h1
  obtain ⟨la2, L2, lc2, rfl, lz2, hc2, hm2, ls2, hS2⟩ := open_les (okWide_slice Try.underlying22 (hval 2 22 v2 rfl rfl)) (fun n hn => of_decide_eq_true (List.all_eq_true.1 hsz _ (DataW.weights_mem_each (j := 2) rfl rfl n hn))) h2
  have hA2 := hA0
  clear hA0 hval0 hsz0
  simp only [List.append_nil] at hW'
  refine (walk la0 L0 lc0 lz0 hc0 hm0 ls0 la1 L1 lc1 lz1 hc1 hm1 ls1 la2 L2 lc2 lz2 hc2 hm2 ls2 W hS0 hS1 hS2).mono fun e W' ⟨he, bel⟩ => ?_
  subst he
  exact ⟨_, rfl, _, _, _, [], _, [], hW', trodAll_mk1 (shut_bool Try.underlying4 _), (stays_all laidOut bel (by kernel_rfl) hA2), rfl, bel.frame _, fun h => by cases h⟩

theorem over : Rows.lossyPutsRow.holds Try.pinned (OpenSpec.ofChange Rows.lossyPutsSpec) :=
  OpenClaim.holds_of_wide 7 Try.f7 rfl rfl rfl rfl rfl rfl rfl ⟨rfl, rfl, rfl, rfl, rfl⟩ rfl rfl rfl rfl rfl (by kernel_rfl) Try.func7 (by kernel_rfl)
    (of_decide_eq_true (by kernel_rfl)) (by unfold Func.isWrapper; first | (rw [if_pos (by decide +kernel)]; kernel_rfl) | (rw [if_neg (by decide +kernel)]; exact ⟨rfl, rfl⟩))
    (fun os started H enc _ => lifted os started H enc)

end Go.Proofs.Ythkfolohhdafkaa.lossyPuts
namespace Go.Proofs.Ythkfolohhdafkaa

theorem lossyPuts_holds : Rows.LossyPutsSaid := lossyPuts.over
#print axioms lossyPuts_holds

end Go.Proofs.Ythkfolohhdafkaa
