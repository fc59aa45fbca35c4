/-
  Whether any frame may be, its bytes, and what frame any bytes are, is as the document says: the law FrameEncodes returns true for every input.
  No condition beyond the form's own.
-/
import Derived.Test.YtdpghocgljnobaaRows
import Derived.Test.YtdpghocgljnobaaFrFy
import Derived.Test.YtdpghocgljnobaaFrIn
import Derived.Test.YtdpghocgljnobaaFrDer
import Derived.WalkKit
import Derived.ProofKit
import Derived.OpenShut
import Derived.ShutString
import Derived.SizedLaws
import Derived.ChangeOld
import Derived.Below
namespace Go.Proofs.Ytdpghocgljnobaa.frameEncodes
open Go.Sort Go.ChangeShapes Go.WideShapes Go.ChangeAt Go.RowKit
open Go.ChangeMaps (open_string shut_string)
set_option linter.unusedVariables false

theorem own : ownKnob Try.prog.godebug = none := by kernel_rfl
theorem length_bytes (s : ByteArray) : s.data.toList.length = s.size := by rw [Array.length_toList]; rfl

theorem decode_opt (s : ByteArray) : ∃ o : Option En, Tells 24 s o ∧ Tells 25 s o := by
  rcases decode_any s with ⟨h1, h2⟩ | ⟨k, sv, g, se, n, t, hs, hm, h1, h2⟩
  · exact ⟨none, h1, h2⟩
  · exact ⟨some ⟨k, sv, g, se, n, t⟩, h1, h2⟩

theorem decode_same (s : ByteArray) : ∃ (G : Nat → En) (c : Int),
    (∀ w, Calls Try.prog 10 #[.string s] w fun r w' => r = .returned (.tuple #[.agg (frc G), .int .i64 c]) ∧ Below w.heap.size w w') ∧
    (∀ w, Calls Try.prog 11 #[.string s] w fun r w' => r = .returned (.tuple #[.agg (frc G), .int .i64 c]) ∧ Below w.heap.size w w') := by
  by_cases hs : s.size = 168
  · obtain ⟨D, hD⟩ := Classical.axiomOfChoice (fun x => decode_opt (part s x))
    have h := frDecode_gen s hs D (fun x _ => (hD x).1)
    have h' := rfrDecode_gen s hs D (fun x _ => (hD x).2)
    cases hg : goodUp D
    · rw [hg] at h h'
      exact ⟨zeroFr, 30, h, h'⟩
    · rw [hg, if_pos rfl] at h h'
      exact ⟨soFar D 6, 0, h, h'⟩
  · have hb : ((s.size : Int) == 168) = false := by rw [beq_eq_false_iff_ne]; omega
    exact ⟨zeroFr, 40, frDecode_long s hb, rfrDecode_long s hb⟩

theorem encode_both (F : Nat → En) : ∃ (b : ByteArray) (c : Int),
    (∀ w, Calls Try.prog 8 #[.agg (frc F)] w fun r w' => r = .returned (.tuple #[.string b, .int .i64 c]) ∧ Below w.heap.size w w') ∧
    (∀ w, Calls Try.prog 9 #[.agg (frc F)] w fun r w' => r = .returned (.tuple #[.string b, .int .i64 c]) ∧ Below w.heap.size w w') := by
  have h := frEncode F
  have h' := rfrEncode F
  cases hm : Fr.may F
  · rw [hm] at h h'; exact ⟨_, _, h, h'⟩
  · rw [hm] at h h'; exact ⟨_, _, h, h'⟩

theorem check_both (F : Nat → En) : ∃ c : Int,
    (∀ w, Calls Try.prog 13 #[.agg (frc F)] w fun r w' => r = .returned (.int .i64 c) ∧ Below w.heap.size w w') ∧
    (∀ w, Calls Try.prog 14 #[.agg (frc F)] w fun r w' => r = .returned (.int .i64 c) ∧ Below w.heap.size w w') :=
  ⟨_, frCheck F, rfrCheck F⟩

set_option maxHeartbeats 2000000 in
theorem walk (F : Nat → En) (s : ByteArray) (_hs : s.size ≤ 140737488351232) (w : World) : Calls Try.prog 3 #[.agg (frc F), .string s] w fun e w' => e = .returned (.bool true) ∧ Below w.heap.size w w' := by
  obtain ⟨bs, c, henc, hrenc⟩ := encode_both F
  obtain ⟨k, hchk, hrchk⟩ := check_both F
  obtain ⟨G, g, hdec, hrdec⟩ := decode_same s
  have keq := eql_frame G
  have k1 : (bs.toList == bs.toList) = true := by simp
  have k2 : (c == c) = true := by simp
  have k3 : (k == k) = true := by simp
  have k4 : (g == g) = true := by simp
  have hF := blk_new w (frc F) 27
  have hb0 := below_box w (.cells (frc F) 27)
  go_enter Try.func3, Try.ntmps3
  go_wp2_with (first | refine alloc_fr rfl rfl ?_ | refine store_new rfl 27 _ _ rfl rfl rfl (by rw [frc_size]; exact size27) ((frc_size _).trans (frc_size _).symm) (frc_one _) ?_ | refine load_blk rfl 27 _ rfl hF rfl Try.underlying27 rfl (by rw [frc_size]; exact size27) ?_)
  refine (henc _).mono ?_
  rintro r w1 ⟨rfl, hb1⟩
  have hF1 := hF.below hb1
  have hw1 := hb0.trans (hb1.mono hb0.size)
  clear hb1 hF hb0 henc
  go_wp2_with (first | refine alloc_fr rfl rfl ?_ | refine store_new rfl 27 _ _ rfl rfl rfl (by rw [frc_size]; exact size27) ((frc_size _).trans (frc_size _).symm) (frc_one _) ?_ | refine load_blk rfl 27 _ rfl hF1 rfl Try.underlying27 rfl (by rw [frc_size]; exact size27) ?_)
  refine (hrenc _).mono ?_
  rintro r w2 ⟨rfl, hb2⟩
  have hF2 := hF1.below hb2
  have hw2 := hw1.trans (hb2.mono hw1.size)
  clear hb2 hF1 hw1 hrenc
  go_wp2_with fail
  refine (hdec _).mono ?_
  rintro r w3 ⟨rfl, hb3⟩
  have hF3 := (hF2.below hb3).alloc (.cells (frc G) 27)
  have hG3 := blk_new w3 (frc G) 27
  have hw3 := hw2.trans (hb3.mono hw2.size)
  have hw4 := hw3.alloc hw3.size (.cells (frc G) 27)
  clear hb3 hF2 hw2 hw3 hdec
  go_wp2_with (first | refine alloc_fr rfl rfl ?_ | refine store_new rfl 27 _ _ rfl rfl rfl (by rw [frc_size]; exact size27) ((frc_size _).trans (frc_size _).symm) (frc_one _) ?_ | refine load_blk rfl 27 _ rfl hF3 rfl Try.underlying27 rfl (by rw [frc_size]; exact size27) ?_)
  refine (hrdec _).mono ?_
  rintro r w4 ⟨rfl, hb4⟩
  have hF4 := (hF3.below hb4).alloc (.cells (frc G) 27)
  have hG4 := (hG3.below hb4).alloc (.cells (frc G) 27)
  have hR4 := blk_new w4 (frc G) 27
  have hw5 := hw4.trans (hb4.mono hw4.size)
  have hw6 := hw5.alloc hw5.size (.cells (frc G) 27)
  clear hb4 hF3 hG3 hw4 hw5 hrdec
  go_wp2_with (first | refine alloc_fr rfl rfl ?_ | refine store_new rfl 27 _ _ rfl rfl rfl (by rw [frc_size]; exact size27) ((frc_size _).trans (frc_size _).symm) (frc_one _) ?_ | refine load_blk rfl 27 _ rfl hF4 rfl Try.underlying27 rfl (by rw [frc_size]; exact size27) ?_)
  generalize w4.alloc (.cells (frc G) 27) = w5 at hF4 hG4 hR4 hw6 ⊢
  have p0 : ∀ d os, Calls Try.prog 12 #[] (grow (redrawn w5 d) os) fun e w'' => e = .returned (.bool true) ∧ ∃ p : Regrown, w'' = grow (redrawn w5 p.d) p.os := fun d os => Calls.regrown_of (fixed_any _)
  have p1 : ∀ d os, Calls Try.prog 13 #[.agg (frc F)] (grow (redrawn w5 d) os) fun e w'' => e = .returned (.int .i64 k) ∧ ∃ p : Regrown, w'' = grow (redrawn w5 p.d) p.os := fun d os => Calls.regrown_of (hchk _)
  have p2 : ∀ d os, Calls Try.prog 14 #[.agg (frc F)] (grow (redrawn w5 d) os) fun e w'' => e = .returned (.int .i64 k) ∧ ∃ p : Regrown, w'' = grow (redrawn w5 p.d) p.os := fun d os => Calls.regrown_of (hrchk _)
  have r0 := hF4.regrown
  have r1 := hG4.regrown
  have r2 := hR4.regrown
  clear hF4 hG4 hR4 hchk hrchk
  refine wp_region_quiet_below (by kernel_rfl) (by kernel_rfl) ?_
  repeat (first | (go_big_quiet_want; (first | refine quiet_load rfl rfl r0 ?_ | refine quiet_load rfl rfl r1 ?_ | refine quiet_load rfl rfl r2 ?_); simp only [Act.put, List.setIfInBounds_toArray, List.set_cons_zero, List.set_cons_succ]; go_big_quiet_on) | go_big_quiet_step (first | with_reducible exact p0 _ _ | with_reducible exact p1 _ _ | with_reducible exact p2 _ _))
  refine wpQuiet_nil ?_
  intro _ hw'
  obtain ⟨⟨dq, osq⟩, hw''⟩ := hw'
  subst hw''
  go_wp2_with fail
  go_ret
  exact ⟨rfl, hw6.trans ((below_regrown w5 dq osq).mono hw6.size)⟩

set_option maxRecDepth 100000 in
theorem lifted (os : Os) (started : os.Started) (H : Type) (enc : TypeId × Value → H) :
    ReturnsInHanded {} Try.checked os 3 .any (Rows.frameEncodesSpec.pre6 enc Try.prog Try.f3 Rows.frameEncodesRow.domain false) (Rows.frameEncodesSpec.post enc Try.prog Try.f3 false true false false) := by
  refine returnsInHanded_of_change_sized (C := Try.checked) own started (by kernel_rfl) Try.func3
    (ChangeSpec.witness6 (enc := enc) (C := Try.checked) false ⟨#[], #[.agg #[.int .i64 0, .int .i64 0, .int .i64 0, .int .u64 0, .int .u64 0, .string ByteArray.empty, .int .i64 0, .int .i64 0, .int .i64 0, .int .u64 0, .int .u64 0, .string ByteArray.empty, .int .i64 0, .int .i64 0, .int .i64 0, .int .u64 0, .int .u64 0, .string ByteArray.empty, .int .i64 0, .int .i64 0, .int .i64 0, .int .u64 0, .int .u64 0, .string ByteArray.empty, .int .i64 0, .int .i64 0, .int .i64 0, .int .u64 0, .int .u64 0, .string ByteArray.empty, .int .i64 0, .int .i64 0, .int .i64 0, .int .u64 0, .int .u64 0, .string ByteArray.empty], .string ByteArray.empty], []⟩ 8 (by kernel_rfl) (by kernel_rfl) (by kernel_rfl) (by kernel_rfl)) ?_
  intro W base args ds gs before hval0 hW hcnd hsz0 _
  have hval : ∀ (j : Nat) t v, Try.f3.params[j]? = some t → args[j]? = some v → Value.okWide Try.prog W .any base t v := hval0
  have hsz : (DataW.weightsEach Try.prog (Try.f3.params.toList ++ Rows.frameEncodesSpec.plain.varTypes Try.prog) (ds ++ gs)).all (· ≤ reachBytes) = true := hsz0
  have hW' := hW
  obtain ⟨p, q, hA0, hV, rfl, hfz, hnd⟩ := hW
  have hA : DataW.TrodAll enc Try.prog W 0 (fun _ => true) true Try.f3.params.toList args.toList ds p := hA0
  rw [Try.params3] at hA hval hsz

  obtain ⟨v0, vs0, d0, ds0, p0, q0, hargs, rfl, rfl, h0, r0⟩ := trodAll_cons hA
  obtain ⟨v1, vs1, d1, ds1, p1, q1, rfl, rfl, rfl, h1, r1⟩ := trodAll_cons r0
  obtain ⟨rfl, rfl, rfl⟩ := trodAll_nil r1
  obtain rfl : args = #[v0, v1] := by cases args; simp_all
  obtain ⟨rfl, rfl⟩ := trodVars_none hV
  obtain ⟨F0, rfl⟩ := open_frame (by obtain ⟨cs, h1, _⟩ := (by simpa only [Value.okWide, Try.underlying27] using hval 0 27 v0 rfl rfl : ∃ cs, v0 = .agg cs ∧ _); exact ⟨cs, h1⟩) h0
  obtain ⟨a1, rfl, rfl, rfl, w1⟩ := open_string Try.underlying9 (hval 1 9 v1 rfl rfl) h1
  have z1 : a1.size ≤ 140737488351232 := by
    have hz := sized_string hsz (j := 1) (t := 9) rfl rfl
    rw [length_bytes] at hz
    exact hz
  have hA2 := hA0
  clear hA0 hval0 hsz0
  simp only [List.append_nil] at hW'
  refine (walk F0 a1 z1 W).mono fun e W' ⟨he, bel⟩ => ?_
  subst he
  exact ⟨_, rfl, _, _, _, [], _, [], hW', trodAll_mk1 (shut_bool Try.underlying4 _), (stays_all laidOut bel (by kernel_rfl) hA2), rfl, bel.frame _, fun h => by cases h⟩

theorem over : Rows.frameEncodesRow.holds Try.pinned (OpenSpec.ofChange Rows.frameEncodesSpec) :=
  OpenClaim.holds_of_wide 3 Try.f3 rfl rfl rfl rfl rfl rfl rfl ⟨rfl, rfl, rfl, rfl, rfl⟩ rfl rfl rfl rfl rfl (by kernel_rfl) Try.func3 (by kernel_rfl)
    (of_decide_eq_true (by kernel_rfl)) (by unfold Func.isWrapper; first | (rw [if_pos (by decide +kernel)]; kernel_rfl) | (rw [if_neg (by decide +kernel)]; exact ⟨rfl, rfl⟩))
    (fun os started H enc _ => lifted os started H enc)

end Go.Proofs.Ytdpghocgljnobaa.frameEncodes
namespace Go.Proofs.Ytdpghocgljnobaa

theorem frameEncodes_holds : Rows.FrameEncodesSaid := frameEncodes.over
#print axioms frameEncodes_holds

end Go.Proofs.Ytdpghocgljnobaa
