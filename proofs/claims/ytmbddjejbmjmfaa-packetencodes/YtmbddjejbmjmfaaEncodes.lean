/-
  Whether any packet may be, and its bytes, is as the document says: the law PacketEncodes returns true for every input.
  No condition beyond the form's own.
-/
import Derived.Test.YtmbddjejbmjmfaaRows
import Derived.Test.YtmbddjejbmjmfaaPkFx
import Derived.Test.YtmbddjejbmjmfaaPkIn
import Derived.WalkKit
import Derived.ProofKit
import Derived.OpenShut
import Derived.ShutString
import Derived.SizedLaws
import Derived.ChangeOld
import Derived.Below
namespace Go.Proofs.Ytmbddjejbmjmfaa.packetEncodes
open Go.Sort Go.ChangeShapes Go.WideShapes Go.ChangeAt Go.RowKit
open Go.ChangeMaps (open_string shut_string)
set_option linter.unusedVariables false
set_option maxRecDepth 10000

theorem own : ownKnob Try.prog.godebug = none := by kernel_rfl
theorem length_bytes (s : ByteArray) : s.data.toList.length = s.size := by rw [Array.length_toList]; rfl

theorem quiet_pk {o : Oper} {a : Act} {C : World → Prop} {K : Act → Prop} {x : Operand} {B : Nat} {p : Pk} {T : TypeId} (ho : o.op = .load 35 x) (hx : a.eval x = .pointer (some ⟨B, 0, none⟩)) (hC : ∀ w, C w → Blk B (pkc p) T w)
    (h : K (a.put o.dst (.agg (pkc p)))) : o.quiet Try.prog a C K := by
  refine ⟨_, fun w hw => ?_, h⟩
  unfold Oper.quietAt execOp
  simp only [ho, hx, Instr.loadAt, Instr.sureAddr, Sem.run_bind, Sem.run_pure, Result.andThen_ok, run_loadVar_row w B T 35 (pkc p) (0, 0) _ (hC w hw) Try.underlying35 rfl (by rw [pkc_size]; exact size35)]
  exact ⟨rfl, rfl⟩

set_option maxHeartbeats 2000000 in
theorem walk (P : Pk) (hP : ∀ i, P.n i < 4294967296) (w : World) : Calls Try.prog 3 #[.agg (pkc P)] w fun e w' => e = .returned (.bool true) ∧ Below w.heap.size w w' := by
  obtain ⟨sl, ec, hs, hr⟩ : ∃ (sl : ByteArray) (ec : Int), (∀ w, Calls Try.prog 9 #[.agg (pkc P)] w fun e w' => e = .returned (.tuple #[.string sl, .int .i64 ec]) ∧ Below w.heap.size w w') ∧ (∀ w, Calls Try.prog 10 #[.agg (pkc P)] w fun e w' => e = .returned (.tuple #[.string sl, .int .i64 ec]) ∧ Below w.heap.size w w') := by
    have h1 := fun w => encode_pk P hP w
    have h2 := fun w => rencode_pk P hP w
    cases hm : P.may
    · rw [hm] at h1 h2; exact ⟨_, _, h1, h2⟩
    · rw [hm] at h1 h2; exact ⟨_, _, h1, h2⟩
  have hc := fun w => check_pk P w
  have hd := fun w => rcheck_pk P w
  generalize (if P.may then (0 : Int) else 52) = ck at hc hd
  have e1 : (sl.toList == sl.toList) = true := by simp
  obtain ⟨w0, hw0⟩ : ∃ w0, w.alloc (.cells (pkc P) 35) = w0 := ⟨_, rfl⟩
  have B0 : Blk w.heap.size (pkc P) 35 w0 := by rw [← hw0]; exact blk_new w _ _
  have b0 : Below w.heap.size w w0 := by rw [← hw0]; exact below_box _ _
  clear hP
  go_enter Try.func3, Try.ntmps3
  go_wp2_with (refine load_blk rfl 35 _ rfl B0 rfl Try.underlying35 rfl (by rw [pkc_size]; exact size35) ?_)
  refine (hs _).mono ?_
  rintro r w1 ⟨rfl, hb1⟩
  have B1 := B0.below hb1
  have b1 := b0.trans (hb1.mono b0.size)
  clear hb1 B0 b0 hs hw0
  go_wp2_with (refine load_blk rfl 35 _ rfl B1 rfl Try.underlying35 rfl (by rw [pkc_size]; exact size35) ?_)
  refine (hr _).mono ?_
  rintro r w2 ⟨rfl, hb2⟩
  have B2 := B1.below hb2
  have b2 := b1.trans (hb2.mono b1.size)
  clear hb2 B1 b1 hr
  have p0 : ∀ d os, Calls Try.prog 11 #[] (grow (redrawn w2 d) os) fun e w'' => e = .returned (.bool true) ∧ ∃ p : Regrown, w'' = grow (redrawn w2 p.d) p.os := fun d os => Calls.regrown_of (fixed_any _)
  have p1 : ∀ d os, Calls Try.prog 12 #[.agg (pkc P)] (grow (redrawn w2 d) os) fun e w'' => e = .returned (.int .i64 ck) ∧ ∃ p : Regrown, w'' = grow (redrawn w2 p.d) p.os := fun d os => Calls.regrown_of (hc _)
  have p2 : ∀ d os, Calls Try.prog 13 #[.agg (pkc P)] (grow (redrawn w2 d) os) fun e w'' => e = .returned (.int .i64 ck) ∧ ∃ p : Regrown, w'' = grow (redrawn w2 p.d) p.os := fun d os => Calls.regrown_of (hd _)
  have hBr := B2.regrown
  clear hc hd
  go_wp2_with fail
  refine wp_region_quiet_below (by kernel_rfl) (by kernel_rfl) ?_
  repeat (first | (go_big_quiet_want; refine quiet_pk rfl rfl hBr ?_; simp only [Act.put, List.setIfInBounds_toArray, List.set_cons_zero, List.set_cons_succ]; go_big_quiet_on) | go_big_quiet_step (first | with_reducible exact p0 _ _ | with_reducible exact p1 _ _ | with_reducible exact p2 _ _))
  refine wpQuiet_nil ?_
  intro _ hw'
  obtain ⟨⟨dq, osq⟩, hw''⟩ := hw'
  subst hw''
  go_wp2_with fail
  go_ret
  exact ⟨rfl, b2.trans ((below_regrown w2 dq osq).mono b2.size)⟩

set_option maxRecDepth 100000 in
theorem lifted (os : Os) (started : os.Started) (H : Type) (enc : TypeId × Value → H) :
    ReturnsInHanded {} Try.checked os 3 .any (Rows.packetEncodesSpec.pre6 enc Try.prog Try.f3 Rows.packetEncodesRow.domain false) (Rows.packetEncodesSpec.post enc Try.prog Try.f3 false true false false) := by
  refine returnsInHanded_of_change_sized (C := Try.checked) own started (by kernel_rfl) Try.func3
    (ChangeSpec.witness6 (enc := enc) (C := Try.checked) false ⟨#[], #[.agg (pkc Pk.zero)], []⟩ 8 (by kernel_rfl) (by kernel_rfl) (by kernel_rfl) (by kernel_rfl)) ?_
  intro W base args ds gs before hval0 hW hcnd hsz0 _
  have hval : ∀ (j : Nat) t v, Try.f3.params[j]? = some t → args[j]? = some v → Value.okWide Try.prog W .any base t v := hval0
  have hsz : (DataW.weightsEach Try.prog (Try.f3.params.toList ++ Rows.packetEncodesSpec.plain.varTypes Try.prog) (ds ++ gs)).all (· ≤ reachBytes) = true := hsz0
  have hW' := hW
  obtain ⟨p, q, hA0, hV, rfl, hfz, hnd⟩ := hW
  have hA : DataW.TrodAll enc Try.prog W 0 (fun _ => true) true Try.f3.params.toList args.toList ds p := hA0
  rw [Try.params3] at hA hval hsz

  obtain ⟨v0, vs0, d0, ds0, p0, q0, hargs, rfl, rfl, h0, r0⟩ := trodAll_cons hA
  obtain ⟨rfl, rfl, rfl⟩ := trodAll_nil r0
  obtain rfl : args = #[v0] := by cases args; simp_all
  obtain ⟨rfl, rfl⟩ := trodVars_none hV
  obtain ⟨P0, rfl, hP0⟩ := open_packet (by obtain ⟨cs, h1, _⟩ := okWide_struct Try.underlying35 (hval 0 35 v0 rfl rfl); exact ⟨cs, h1⟩) h0
  have hA2 := hA0
  clear hA0 hval0 hsz0
  simp only [List.append_nil] at hW'
  refine (walk P0 hP0 W).mono fun e W' ⟨he, bel⟩ => ?_
  subst he
  exact ⟨_, rfl, _, _, _, [], _, [], hW', trodAll_mk1 (shut_bool Try.underlying4 _), (stays_all laidOut bel (by kernel_rfl) hA2), rfl, bel.frame _, fun h => by cases h⟩

theorem over : Rows.packetEncodesRow.holds Try.pinned (OpenSpec.ofChange Rows.packetEncodesSpec) :=
  OpenClaim.holds_of_wide 3 Try.f3 rfl rfl rfl rfl rfl rfl rfl ⟨rfl, rfl, rfl, rfl, rfl⟩ rfl rfl rfl rfl rfl (by kernel_rfl) Try.func3 (by kernel_rfl)
    (of_decide_eq_true (by kernel_rfl)) (by unfold Func.isWrapper; first | (rw [if_pos (by decide +kernel)]; kernel_rfl) | (rw [if_neg (by decide +kernel)]; exact ⟨rfl, rfl⟩))
    (fun os started H enc _ => lifted os started H enc)

end Go.Proofs.Ytmbddjejbmjmfaa.packetEncodes
namespace Go.Proofs.Ytmbddjejbmjmfaa

theorem packetEncodes_holds : Rows.PacketEncodesSaid := packetEncodes.over
#print axioms packetEncodes_holds

end Go.Proofs.Ytmbddjejbmjmfaa
