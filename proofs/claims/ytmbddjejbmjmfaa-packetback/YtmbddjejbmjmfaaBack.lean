/-
  A packet that may be is decoded as it was, with 641 bytes, and what is decoded is encoded as the same bytes: the law PacketBack returns true for every input.
  No condition beyond the form's own.
-/
import Derived.Test.YtmbddjejbmjmfaaRows
import Derived.Test.YtmbddjejbmjmfaaPkFx
import Derived.Test.YtmbddjejbmjmfaaPkIn
import Derived.WalkKit
import Derived.ProofKit
import Derived.OpenShut
import Derived.ShutString
import Derived.SizedLaws
import Derived.ChangeOld
import Derived.Below
namespace Go.Proofs.Ytmbddjejbmjmfaa.packetBack
open Go.Sort Go.ChangeShapes Go.WideShapes Go.ChangeAt Go.RowKit
open Go.ChangeMaps (open_string shut_string)
set_option linter.unusedVariables false
set_option maxRecDepth 10000

theorem own : ownKnob Try.prog.godebug = none := by kernel_rfl
theorem length_bytes (s : ByteArray) : s.data.toList.length = s.size := by rw [Array.length_toList]; rfl

set_option maxHeartbeats 2000000 in
theorem walk_may (P : Pk) (hP : ∀ i, P.n i < 4294967296) (hm : P.may = true) (s : ByteArray) (w : World) : Calls Try.prog 5 #[.agg (pkc P), .string s] w fun e w' => e = .returned (.bool true) ∧ Below w.heap.size w w' := by
  have henc := fun w => encode_pk P hP w
  rw [hm, if_pos rfl] at henc
  have hback := fun w => decode_sealed P hm hP w
  have hz2 : ((P.sealed.size : Int) != 641) = false := by rw [sealed_size]; rfl
  generalize P.sealed = bs at henc hback hz2
  have kne := neq_packet P
  clear hm hP
  obtain ⟨Q, c, hdec, hQ, hcase⟩ := decode_all_pk s
  obtain ⟨w0, hw0⟩ : ∃ w0, w.alloc (.cells (pkc P) 35) = w0 := ⟨_, rfl⟩
  have A0 : Blk w.heap.size (pkc P) 35 w0 := by rw [← hw0]; exact blk_new w _ _
  have b0 : Below w.heap.size w w0 := by rw [← hw0]; exact below_box _ _
  go_enter Try.func5, Try.ntmps5
  go_wp2_with (refine load_blk rfl 35 _ rfl A0 rfl Try.underlying35 rfl (by rw [pkc_size]; exact size35) ?_)
  refine (henc _).mono ?_
  rintro r w1 ⟨rfl, hb1⟩
  have A1 := A0.below hb1
  have b1 := b0.trans (hb1.mono b0.size)
  clear hb1 A0 b0 henc hw0
  go_wp2_with fail
  refine (hback _).mono ?_
  rintro r w2 ⟨rfl, hb2⟩
  obtain ⟨W2, hW2⟩ : ∃ W, w2.alloc (.cells (pkc P) 35) = W := ⟨_, rfl⟩
  have A2 : Blk w.heap.size (pkc P) 35 W2 := by rw [← hW2]; exact (A1.below hb2).alloc _
  have G2 : Blk w2.heap.size (pkc P) 35 W2 := by rw [← hW2]; exact blk_new w2 _ _
  have b2 : Below w.heap.size w W2 := by rw [← hW2]; exact (b1.trans (hb2.mono b1.size)).alloc (Nat.le_trans b1.size hb2.size) _
  clear hb2 A1 b1 hback
  go_wp2_with (first | refine alloc_pk rfl rfl ?_ | refine store_same rfl 35 _ _ rfl G2 rfl rfl (by rw [pkc_size]; exact size35) (pkc_one _) ?_ | (refine store_new (cells := pkc P) rfl 35 _ _ rfl rfl rfl (by rw [pkc_size]; exact size35) ((pkc_size _).trans (pkc_size _).symm) (pkc_one _) ?_; rw [hW2]))
  refine (fixed_any _).mono ?_
  rintro r w3 ⟨rfl, hb3⟩
  have A3 := A2.below hb3
  have G3 := G2.below hb3
  have b3 := b2.trans (hb3.mono b2.size)
  clear hb3 A2 G2 b2 hW2
  go_wp2_with (first | refine load_want (by rfl) 35 _ rfl A3 rfl Try.underlying35 rfl (by rw [pkc_size]; exact size35) ?_ | refine load_want (by rfl) 35 _ rfl G3 rfl Try.underlying35 rfl (by rw [pkc_size]; exact size35) ?_)
  refine (hdec _).mono ?_
  rintro r w4 ⟨rfl, hb4⟩
  obtain ⟨W4, hW4⟩ : ∃ W, w4.alloc (.cells (pkc Q) 35) = W := ⟨_, rfl⟩
  have D4 : Blk w4.heap.size (pkc Q) 35 W4 := by rw [← hW4]; exact blk_new w4 _ _
  have b4 : Below w.heap.size w W4 := by rw [← hW4]; exact (b3.trans (hb4.mono b3.size)).alloc (Nat.le_trans b3.size hb4.size) _
  clear hb4 hdec b3 A3 G3
  have henc2 := fun w => encode_pk Q hQ w
  rcases hcase with ⟨rfl, hmQ, hsQ⟩ | hc
  · rw [hmQ, if_pos rfl, ← hsQ] at henc2
    have hss : (s.toList == s.toList) = true := by simp
    clear hsQ
    go_wp2_with (first | refine alloc_pk rfl rfl ?_ | (refine store_new (cells := pkc Q) rfl 35 _ _ rfl rfl rfl (by rw [pkc_size]; exact size35) ((pkc_size _).trans (pkc_size _).symm) (pkc_one _) ?_; rw [hW4]) | refine load_blk rfl 35 _ rfl D4 rfl Try.underlying35 rfl (by rw [pkc_size]; exact size35) ?_)
    refine (henc2 _).mono ?_
    rintro r w5 ⟨rfl, hb5⟩
    go_wp2_with fail
    go_ret
    exact ⟨rfl, b4.trans (hb5.mono b4.size)⟩
  · obtain ⟨t0, d0, he2⟩ : ∃ (t0 : ByteArray) (d0 : Int), ∀ w, Calls Try.prog 9 #[.agg (pkc Q)] w fun r w' => r = .returned (.tuple #[.string t0, .int .i64 d0]) ∧ Below w.heap.size w w' := by
      cases hmQ : Q.may
      · rw [hmQ] at henc2; exact ⟨_, _, henc2⟩
      · rw [hmQ] at henc2; exact ⟨_, _, henc2⟩
    have hc2 : (c != 0) = true := by rw [bne_iff_ne]; exact hc
    clear henc2 hc
    go_wp2_with (first | refine alloc_pk rfl rfl ?_ | (refine store_new (cells := pkc Q) rfl 35 _ _ rfl rfl rfl (by rw [pkc_size]; exact size35) ((pkc_size _).trans (pkc_size _).symm) (pkc_one _) ?_; rw [hW4]) | refine load_blk rfl 35 _ rfl D4 rfl Try.underlying35 rfl (by rw [pkc_size]; exact size35) ?_)
    refine (he2 _).mono ?_
    rintro r w5 ⟨rfl, hb5⟩
    go_wp2_with fail
    go_ret
    exact ⟨rfl, b4.trans (hb5.mono b4.size)⟩

set_option maxHeartbeats 2000000 in
theorem walk_no (P : Pk) (hP : ∀ i, P.n i < 4294967296) (hm : P.may = false) (s : ByteArray) (w : World) : Calls Try.prog 5 #[.agg (pkc P), .string s] w fun e w' => e = .returned (.bool true) ∧ Below w.heap.size w w' := by
  have henc := fun w => encode_pk P hP w
  rw [hm] at henc
  change ∀ w, Calls Try.prog 9 #[.agg (pkc P)] w fun r w' => r = .returned (.tuple #[.string ⟨#[]⟩, .int .i64 52]) ∧ Below w.heap.size w w' at henc
  have hback := fun w => dec_long ⟨#[]⟩ (by rfl) w
  clear hm hP
  obtain ⟨Q, c, hdec, hQ, hcase⟩ := decode_all_pk s
  obtain ⟨w0, hw0⟩ : ∃ w0, w.alloc (.cells (pkc P) 35) = w0 := ⟨_, rfl⟩
  have A0 : Blk w.heap.size (pkc P) 35 w0 := by rw [← hw0]; exact blk_new w _ _
  have b0 : Below w.heap.size w w0 := by rw [← hw0]; exact below_box _ _
  go_enter Try.func5, Try.ntmps5
  go_wp2_with (refine load_blk rfl 35 _ rfl A0 rfl Try.underlying35 rfl (by rw [pkc_size]; exact size35) ?_)
  refine (henc _).mono ?_
  rintro r w1 ⟨rfl, hb1⟩
  have A1 := A0.below hb1
  have b1 := b0.trans (hb1.mono b0.size)
  clear hb1 A0 b0 henc hw0
  go_wp2_with fail
  refine (hback _).mono ?_
  rintro r w2 ⟨rfl, hb2⟩
  obtain ⟨W2, hW2⟩ : ∃ W, w2.alloc (.cells (pkc Pk.zero) 35) = W := ⟨_, rfl⟩
  have A2 : Blk w.heap.size (pkc P) 35 W2 := by rw [← hW2]; exact (A1.below hb2).alloc _
  have G2 : Blk w2.heap.size (pkc Pk.zero) 35 W2 := by rw [← hW2]; exact blk_new w2 _ _
  have b2 : Below w.heap.size w W2 := by rw [← hW2]; exact (b1.trans (hb2.mono b1.size)).alloc (Nat.le_trans b1.size hb2.size) _
  clear hb2 A1 b1 hback
  go_wp2_with (first | refine alloc_pk rfl rfl ?_ | refine store_same rfl 35 _ _ rfl G2 rfl rfl (by rw [pkc_size]; exact size35) (pkc_one _) ?_ | (refine store_new (cells := pkc Pk.zero) rfl 35 _ _ rfl rfl rfl (by rw [pkc_size]; exact size35) ((pkc_size _).trans (pkc_size _).symm) (pkc_one _) ?_; rw [hW2]))
  refine (fixed_any _).mono ?_
  rintro r w3 ⟨rfl, hb3⟩
  have A3 := A2.below hb3
  have G3 := G2.below hb3
  have b3 := b2.trans (hb3.mono b2.size)
  clear hb3 A2 G2 b2 hW2
  go_wp2_with (first | refine load_want (by rfl) 35 _ rfl A3 rfl Try.underlying35 rfl (by rw [pkc_size]; exact size35) ?_ | refine load_want (by rfl) 35 _ rfl G3 rfl Try.underlying35 rfl (by rw [pkc_size]; exact size35) ?_)
  refine (hdec _).mono ?_
  rintro r w4 ⟨rfl, hb4⟩
  obtain ⟨W4, hW4⟩ : ∃ W, w4.alloc (.cells (pkc Q) 35) = W := ⟨_, rfl⟩
  have D4 : Blk w4.heap.size (pkc Q) 35 W4 := by rw [← hW4]; exact blk_new w4 _ _
  have b4 : Below w.heap.size w W4 := by rw [← hW4]; exact (b3.trans (hb4.mono b3.size)).alloc (Nat.le_trans b3.size hb4.size) _
  clear hb4 hdec b3 A3 G3
  have henc2 := fun w => encode_pk Q hQ w
  rcases hcase with ⟨rfl, hmQ, hsQ⟩ | hc
  · rw [hmQ, if_pos rfl, ← hsQ] at henc2
    have hss : (s.toList == s.toList) = true := by simp
    clear hsQ
    go_wp2_with (first | refine alloc_pk rfl rfl ?_ | (refine store_new (cells := pkc Q) rfl 35 _ _ rfl rfl rfl (by rw [pkc_size]; exact size35) ((pkc_size _).trans (pkc_size _).symm) (pkc_one _) ?_; rw [hW4]) | refine load_blk rfl 35 _ rfl D4 rfl Try.underlying35 rfl (by rw [pkc_size]; exact size35) ?_)
    refine (henc2 _).mono ?_
    rintro r w5 ⟨rfl, hb5⟩
    go_wp2_with fail
    go_ret
    exact ⟨rfl, b4.trans (hb5.mono b4.size)⟩
  · obtain ⟨t0, d0, he2⟩ : ∃ (t0 : ByteArray) (d0 : Int), ∀ w, Calls Try.prog 9 #[.agg (pkc Q)] w fun r w' => r = .returned (.tuple #[.string t0, .int .i64 d0]) ∧ Below w.heap.size w w' := by
      cases hmQ : Q.may
      · rw [hmQ] at henc2; exact ⟨_, _, henc2⟩
      · rw [hmQ] at henc2; exact ⟨_, _, henc2⟩
    have hc2 : (c != 0) = true := by rw [bne_iff_ne]; exact hc
    clear henc2 hc
    go_wp2_with (first | refine alloc_pk rfl rfl ?_ | (refine store_new (cells := pkc Q) rfl 35 _ _ rfl rfl rfl (by rw [pkc_size]; exact size35) ((pkc_size _).trans (pkc_size _).symm) (pkc_one _) ?_; rw [hW4]) | refine load_blk rfl 35 _ rfl D4 rfl Try.underlying35 rfl (by rw [pkc_size]; exact size35) ?_)
    refine (he2 _).mono ?_
    rintro r w5 ⟨rfl, hb5⟩
    go_wp2_with fail
    go_ret
    exact ⟨rfl, b4.trans (hb5.mono b4.size)⟩

theorem walk (P : Pk) (hP : ∀ i, P.n i < 4294967296) (s : ByteArray) (_hs : s.size ≤ 140737488351232) (w : World) : Calls Try.prog 5 #[.agg (pkc P), .string s] w fun e w' => e = .returned (.bool true) ∧ Below w.heap.size w w' := by
  cases hm : P.may
  · exact walk_no P hP hm s w
  · exact walk_may P hP hm s w

set_option maxRecDepth 100000 in
theorem lifted (os : Os) (started : os.Started) (H : Type) (enc : TypeId × Value → H) :
    ReturnsInHanded {} Try.checked os 5 .any (Rows.packetBackSpec.pre6 enc Try.prog Try.f5 Rows.packetBackRow.domain false) (Rows.packetBackSpec.post enc Try.prog Try.f5 false true false false) := by
  refine returnsInHanded_of_change_sized (C := Try.checked) own started (by kernel_rfl) Try.func5
    (ChangeSpec.witness6 (enc := enc) (C := Try.checked) false ⟨#[], #[.agg (pkc Pk.zero), .string ByteArray.empty], []⟩ 8 (by kernel_rfl) (by kernel_rfl) (by kernel_rfl) (by kernel_rfl)) ?_
  intro W base args ds gs before hval0 hW hcnd hsz0 _
  have hval : ∀ (j : Nat) t v, Try.f5.params[j]? = some t → args[j]? = some v → Value.okWide Try.prog W .any base t v := hval0
  have hsz : (DataW.weightsEach Try.prog (Try.f5.params.toList ++ Rows.packetBackSpec.plain.varTypes Try.prog) (ds ++ gs)).all (· ≤ reachBytes) = true := hsz0
  have hW' := hW
  obtain ⟨p, q, hA0, hV, rfl, hfz, hnd⟩ := hW
  have hA : DataW.TrodAll enc Try.prog W 0 (fun _ => true) true Try.f5.params.toList args.toList ds p := hA0
  rw [Try.params5] at hA hval hsz

  obtain ⟨v0, vs0, d0, ds0, p0, q0, hargs, rfl, rfl, h0, r0⟩ := trodAll_cons hA
  obtain ⟨v1, vs1, d1, ds1, p1, q1, rfl, rfl, rfl, h1, r1⟩ := trodAll_cons r0
  obtain ⟨rfl, rfl, rfl⟩ := trodAll_nil r1
  obtain rfl : args = #[v0, v1] := by cases args; simp_all
  obtain ⟨rfl, rfl⟩ := trodVars_none hV
  obtain ⟨P0, rfl, hP0⟩ := open_packet (by obtain ⟨cs, h1, _⟩ := okWide_struct Try.underlying35 (hval 0 35 v0 rfl rfl); exact ⟨cs, h1⟩) h0
  obtain ⟨a1, rfl, rfl, rfl, w1⟩ := open_string Try.underlying9 (hval 1 9 v1 rfl rfl) h1
  have z1 : a1.size ≤ 140737488351232 := by
    have hz := sized_string hsz (j := 1) (t := 9) rfl rfl
    rw [length_bytes] at hz
    exact hz
  have hA2 := hA0
  clear hA0 hval0 hsz0
  simp only [List.append_nil] at hW'
  refine (walk P0 hP0 a1 z1 W).mono fun e W' ⟨he, bel⟩ => ?_
  subst he
  exact ⟨_, rfl, _, _, _, [], _, [], hW', trodAll_mk1 (shut_bool Try.underlying4 _), (stays_all laidOut bel (by kernel_rfl) hA2), rfl, bel.frame _, fun h => by cases h⟩

theorem over : Rows.packetBackRow.holds Try.pinned (OpenSpec.ofChange Rows.packetBackSpec) :=
  OpenClaim.holds_of_wide 5 Try.f5 rfl rfl rfl rfl rfl rfl rfl ⟨rfl, rfl, rfl, rfl, rfl⟩ rfl rfl rfl rfl rfl (by kernel_rfl) Try.func5 (by kernel_rfl)
    (of_decide_eq_true (by kernel_rfl)) (by unfold Func.isWrapper; first | (rw [if_pos (by decide +kernel)]; kernel_rfl) | (rw [if_neg (by decide +kernel)]; exact ⟨rfl, rfl⟩))
    (fun os started H enc _ => lifted os started H enc)

end Go.Proofs.Ytmbddjejbmjmfaa.packetBack
namespace Go.Proofs.Ytmbddjejbmjmfaa

theorem packetBack_holds : Rows.PacketBackSaid := packetBack.over
#print axioms packetBack_holds

end Go.Proofs.Ytmbddjejbmjmfaa
