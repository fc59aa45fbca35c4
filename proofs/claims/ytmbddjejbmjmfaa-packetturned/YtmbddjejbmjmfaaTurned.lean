/-
  A packet's bytes in which bits were turned that lie within four bytes beside one another are refused, as not their sum's, or are as they were: the law PacketTurned returns true for every input.
  No condition beyond the form's own.
-/
import Derived.Test.YtmbddjejbmjmfaaRows
import Derived.Test.YtmbddjejbmjmfaaPkFx
import Derived.Test.YtmbddjejbmjmfaaPkIn
import Derived.WalkKit
import Derived.ProofKit
import Derived.OpenShut
import Derived.ShutString
import Derived.SizedLaws
import Derived.ChangeOld
import Derived.Below
namespace Go.Proofs.Ytmbddjejbmjmfaa.packetTurned
open Go.Sort Go.ChangeShapes Go.WideShapes Go.ChangeAt Go.RowKit
open Go.ChangeMaps (open_string shut_string)
set_option linter.unusedVariables false
set_option maxRecDepth 10000

theorem own : ownKnob Try.prog.godebug = none := by kernel_rfl
theorem length_bytes (s : ByteArray) : s.data.toList.length = s.size := by rw [Array.length_toList]; rfl

theorem u32_of (n : Int) (h : (Lit.int .u32 n).wf = true) : ∃ x : BitVec 32, n = (x.toNat : Int) := by
  have hb := bounds_u32 h
  refine ⟨BitVec.ofNat 32 n.toNat, ?_⟩
  rw [BitVec.toNat_ofNat]
  omega

set_option maxHeartbeats 2000000 in
theorem walk_no (P : Pk) (hP : ∀ i, P.n i < 4294967296) (hm : P.may = false) (p m : Int) (w : World) :
    Calls Try.prog 6 #[.agg (pkc P), .int .i64 p, .int .u32 m] w fun e w' => e = .returned (.bool true) ∧ Below w.heap.size w w' := by
  have henc := fun w => encode_pk P hP w
  rw [hm] at henc
  change ∀ w, Calls Try.prog 9 #[.agg (pkc P)] w fun r w' => r = .returned (.tuple #[.string ⟨#[]⟩, .int .i64 52]) ∧ Below w.heap.size w w' at henc
  clear hm hP
  obtain ⟨w0, hw0⟩ : ∃ w0, w.alloc (.cells (pkc P) 35) = w0 := ⟨_, rfl⟩
  have A0 : Blk w.heap.size (pkc P) 35 w0 := by rw [← hw0]; exact blk_new w _ _
  have b0 : Below w.heap.size w w0 := by rw [← hw0]; exact below_box _ _
  go_enter Try.func6, Try.ntmps6
  go_wp2_with (refine load_blk rfl 35 _ rfl A0 rfl Try.underlying35 rfl (by rw [pkc_size]; exact size35) ?_)
  refine (henc _).mono ?_
  rintro r w1 ⟨rfl, hb1⟩
  have b1 := b0.trans (hb1.mono b0.size)
  clear hb1 A0 b0 henc hw0
  go_wp2_with fail
  refine (fixed_any _).mono ?_
  rintro r w2 ⟨rfl, hb2⟩
  have b2 := b1.trans (hb2.mono b1.size)
  clear hb2 b1
  go_wp2_with fail
  refine (fixed_any _).mono ?_
  rintro r w3 ⟨rfl, hb3⟩
  go_wp2_with fail
  go_ret
  exact ⟨rfl, b2.trans (hb3.mono b2.size)⟩

set_option maxHeartbeats 2000000 in
theorem walk_may (P : Pk) (hP : ∀ i, P.n i < 4294967296) (hm : P.may = true) (p : Int) (m : BitVec 32) (w : World) :
    Calls Try.prog 6 #[.agg (pkc P), .int .i64 p, .int .u32 (m.toNat : Int)] w fun e w' => e = .returned (.bool true) ∧ Below w.heap.size w w' := by
  have henc := fun w => encode_pk P hP w
  rw [hm, if_pos rfl] at henc
  have hback := fun w => decode_sealed P hm hP w
  have HZ : Hid (P.sealed.size = 641) := sealed_size P
  have HK : Hid (Crc.okL P.sealed.data.toList = true) := sealed_okL P
  generalize P.sealed = s at henc hback HZ HK
  have kp := eql_packet P
  have kz := eql_packet Pk.zero
  clear hm hP
  obtain ⟨w0, hw0⟩ : ∃ w0, w.alloc (.cells (pkc P) 35) = w0 := ⟨_, rfl⟩
  have A0 : Blk w.heap.size (pkc P) 35 w0 := by rw [← hw0]; exact blk_new w _ _
  have b0 : Below w.heap.size w w0 := by rw [← hw0]; exact below_box _ _
  go_enter Try.func6, Try.ntmps6
  go_wp2_with (refine load_blk rfl 35 _ rfl A0 rfl Try.underlying35 rfl (by rw [pkc_size]; exact size35) ?_)
  refine (henc _).mono ?_
  rintro r w1 ⟨rfl, hb1⟩
  have A1 := A0.below hb1
  have b1 := b0.trans (hb1.mono b0.size)
  clear hb1 A0 b0 henc hw0
  go_wp2_with fail
  refine (fixed_any _).mono ?_
  rintro r w2 ⟨rfl, hb2⟩
  have A2 := A1.below hb2
  have b2 := b1.trans (hb2.mono b1.size)
  clear hb2 A1 b1
  go_wp2_with fail
  refine (turn_any s p m _ (by rw [HZ.out]; omega)).mono ?_
  rintro r w3 ⟨f, rfl, ho, hb3⟩
  have A3 := A2.below hb3
  have b3 := b2.trans (hb3.mono b2.size)
  have hburst := burst s p f (by rw [HZ.out]; decide) HK.out ho
  have hsz : (textOf s.size f).size = 641 := by rw [textOf_size]; exact HZ.out
  generalize textOf s.size f = u at hburst hsz
  clear hb3 A2 b2 ho
  by_cases hu : u = s
  · subst hu
    have e1 : (u.toList == u.toList) = true := by simp
    clear hburst hsz
    go_wp2_with fail
    refine (hback _).mono ?_
    rintro r w4 ⟨rfl, hb4⟩
    obtain ⟨W4, hW4⟩ : ∃ W, w4.alloc (.cells (pkc P) 35) = W := ⟨_, rfl⟩
    have A4 : Blk w.heap.size (pkc P) 35 W4 := by rw [← hW4]; exact (A3.below hb4).alloc _
    have D4 : Blk w4.heap.size (pkc P) 35 W4 := by rw [← hW4]; exact blk_new w4 _ _
    have b4 : Below w.heap.size w W4 := by rw [← hW4]; exact (b3.trans (hb4.mono b3.size)).alloc (Nat.le_trans b3.size hb4.size) _
    clear hb4 A3 b3 hback
    go_wp2_with (first | refine alloc_pk rfl rfl ?_ | (refine store_new (cells := pkc P) rfl 35 _ _ rfl rfl rfl (by rw [pkc_size]; exact size35) ((pkc_size _).trans (pkc_size _).symm) (pkc_one _) ?_; rw [hW4]) | refine load_want (by rfl) 35 _ rfl A4 rfl Try.underlying35 rfl (by rw [pkc_size]; exact size35) ?_ | refine load_want (by rfl) 35 _ rfl D4 rfl Try.underlying35 rfl (by rw [pkc_size]; exact size35) ?_)
    go_ret
    exact ⟨rfl, b4⟩
  · have e1 : (u.toList == s.toList) = false := bytes_ne hu
    have hbad : Crc.okL u.data.toList = false := by
      rw [e1] at hburst
      cases h : Crc.okL u.data.toList
      · rfl
      · rw [h] at hburst; cases hburst
    have hsum := fun w => dec_sum u hsz hbad w
    clear hburst hsz hbad hback hu
    go_wp2_with fail
    refine (hsum _).mono ?_
    rintro r w4 ⟨rfl, hb4⟩
    obtain ⟨W4, hW4⟩ : ∃ W, w4.alloc (.cells (pkc Pk.zero) 35) = W := ⟨_, rfl⟩
    have D4 : Blk w4.heap.size (pkc Pk.zero) 35 W4 := by rw [← hW4]; exact blk_new w4 _ _
    have b4 : Below w.heap.size w W4 := by rw [← hW4]; exact (b3.trans (hb4.mono b3.size)).alloc (Nat.le_trans b3.size hb4.size) _
    clear hb4 A3 b3 hsum
    go_wp2_with (first | refine alloc_pk rfl rfl ?_ | refine store_same rfl 35 _ _ rfl D4 rfl rfl (by rw [pkc_size]; exact size35) (pkc_one _) ?_ | (refine store_new (cells := pkc Pk.zero) rfl 35 _ _ rfl rfl rfl (by rw [pkc_size]; exact size35) ((pkc_size _).trans (pkc_size _).symm) (pkc_one _) ?_; rw [hW4]) | refine load_want (by rfl) 35 _ rfl D4 rfl Try.underlying35 rfl (by rw [pkc_size]; exact size35) ?_ | refine build_wpk (by rfl) rfl ?_)
    go_ret
    exact ⟨rfl, b4⟩

theorem walk (P : Pk) (hP : ∀ i, P.n i < 4294967296) (p : Int) (_hp : (Lit.int .i64 p).wf = true) (m0 : Int) (hm0 : (Lit.int .u32 m0).wf = true) (w : World) :
    Calls Try.prog 6 #[.agg (pkc P), .int .i64 p, .int .u32 m0] w fun e w' => e = .returned (.bool true) ∧ Below w.heap.size w w' := by
  cases hm : P.may
  · exact walk_no P hP hm p m0 w
  · obtain ⟨m, rfl⟩ := u32_of m0 hm0
    exact walk_may P hP hm p m w

set_option maxRecDepth 100000 in
theorem lifted (os : Os) (started : os.Started) (H : Type) (enc : TypeId × Value → H) :
    ReturnsInHanded {} Try.checked os 6 .any (Rows.packetTurnedSpec.pre6 enc Try.prog Try.f6 Rows.packetTurnedRow.domain false) (Rows.packetTurnedSpec.post enc Try.prog Try.f6 false true false false) := by
  refine returnsInHanded_of_change_sized (C := Try.checked) own started (by kernel_rfl) Try.func6
    (ChangeSpec.witness6 (enc := enc) (C := Try.checked) false ⟨#[], #[.agg (pkc Pk.zero), .int .i64 0, .int .u32 0], []⟩ 8 (by kernel_rfl) (by kernel_rfl) (by kernel_rfl) (by kernel_rfl)) ?_
  intro W base args ds gs before hval0 hW hcnd hsz0 _
  have hval : ∀ (j : Nat) t v, Try.f6.params[j]? = some t → args[j]? = some v → Value.okWide Try.prog W .any base t v := hval0
  have hsz : (DataW.weightsEach Try.prog (Try.f6.params.toList ++ Rows.packetTurnedSpec.plain.varTypes Try.prog) (ds ++ gs)).all (· ≤ reachBytes) = true := hsz0
  have hW' := hW
  obtain ⟨p, q, hA0, hV, rfl, hfz, hnd⟩ := hW
  have hA : DataW.TrodAll enc Try.prog W 0 (fun _ => true) true Try.f6.params.toList args.toList ds p := hA0
  rw [Try.params6] at hA hval hsz

  obtain ⟨v0, vs0, d0, ds0, p0, q0, hargs, rfl, rfl, h0, r0⟩ := trodAll_cons hA
  obtain ⟨v1, vs1, d1, ds1, p1, q1, rfl, rfl, rfl, h1, r1⟩ := trodAll_cons r0
  obtain ⟨v2, vs2, d2, ds2, p2, q2, rfl, rfl, rfl, h2, r2⟩ := trodAll_cons r1
  obtain ⟨rfl, rfl, rfl⟩ := trodAll_nil r2
  obtain rfl : args = #[v0, v1, v2] := by cases args; simp_all
  obtain ⟨rfl, rfl⟩ := trodVars_none hV
  obtain ⟨P0, rfl, hP0⟩ := open_packet (by obtain ⟨cs, h1, _⟩ := okWide_struct Try.underlying35 (hval 0 35 v0 rfl rfl); exact ⟨cs, h1⟩) h0
  obtain ⟨a1, rfl, rfl, rfl, w1⟩ := open_int Try.underlying3 (hval 1 3 v1 rfl rfl) h1
  obtain ⟨a2, rfl, rfl, rfl, w2⟩ := open_int Try.underlying22 (hval 2 22 v2 rfl rfl) h2
  have hA2 := hA0
  clear hA0 hval0 hsz0
  simp only [List.append_nil] at hW'
  refine (walk P0 hP0 a1 w1 a2 w2 W).mono fun e W' ⟨he, bel⟩ => ?_
  subst he
  exact ⟨_, rfl, _, _, _, [], _, [], hW', trodAll_mk1 (shut_bool Try.underlying4 _), (stays_all laidOut bel (by kernel_rfl) hA2), rfl, bel.frame _, fun h => by cases h⟩

theorem over : Rows.packetTurnedRow.holds Try.pinned (OpenSpec.ofChange Rows.packetTurnedSpec) :=
  OpenClaim.holds_of_wide 6 Try.f6 rfl rfl rfl rfl rfl rfl rfl ⟨rfl, rfl, rfl, rfl, rfl⟩ rfl rfl rfl rfl rfl (by kernel_rfl) Try.func6 (by kernel_rfl)
    (of_decide_eq_true (by kernel_rfl)) (by unfold Func.isWrapper; first | (rw [if_pos (by decide +kernel)]; kernel_rfl) | (rw [if_neg (by decide +kernel)]; exact ⟨rfl, rfl⟩))
    (fun os started H enc _ => lifted os started H enc)

end Go.Proofs.Ytmbddjejbmjmfaa.packetTurned
namespace Go.Proofs.Ytmbddjejbmjmfaa

theorem packetTurned_holds : Rows.PacketTurnedSaid := packetTurned.over
#print axioms packetTurned_holds

end Go.Proofs.Ytmbddjejbmjmfaa
