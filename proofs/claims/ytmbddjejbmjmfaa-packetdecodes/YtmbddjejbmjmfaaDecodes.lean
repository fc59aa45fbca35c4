/-
  What packet any bytes are, sealed or not, or why they are none, is as the document says: the law PacketDecodes returns true for every input.
  No condition beyond the form's own.
-/
import Derived.Test.YtmbddjejbmjmfaaRows
import Derived.Test.YtmbddjejbmjmfaaPkFx
import Derived.Test.YtmbddjejbmjmfaaPkIn
import Derived.Test.YtmbddjejbmjmfaaPkRed
import Derived.WalkKit
import Derived.ProofKit
import Derived.OpenShut
import Derived.ShutString
import Derived.SizedLaws
import Derived.ChangeOld
import Derived.Below
namespace Go.Proofs.Ytmbddjejbmjmfaa.packetDecodes
open Go.Sort Go.ChangeShapes Go.WideShapes Go.ChangeAt Go.RowKit
open Go.ChangeMaps (open_string shut_string)
set_option linter.unusedVariables false
set_option maxRecDepth 10000

theorem own : ownKnob Try.prog.godebug = none := by kernel_rfl
theorem length_bytes (s : ByteArray) : s.data.toList.length = s.size := by rw [Array.length_toList]; rfl

theorem decode_both_pk (s : ByteArray) : ∃ (P : Pk) (c : Int),
    (∀ w, Calls Try.prog 14 #[.string s] w fun r w' => r = .returned (.tuple #[.agg (pkc P), .int .i64 c]) ∧ Below w.heap.size w w') ∧
    (∀ w, Calls Try.prog 15 #[.string s] w fun r w' => r = .returned (.tuple #[.agg (pkc P), .int .i64 c]) ∧ Below w.heap.size w w') := by
  by_cases hs : s.size = 641
  · cases hok : Crc.okL s.data.toList
    · exact ⟨Pk.zero, 51, dec_sum s hs hok, rdec_sum s hs hok⟩
    · have hl : s.data.toList.length = 641 := by rw [Pack.size_list, hs]
      obtain ⟨G0, c0, k0, r0, f0⟩ := decode_full (ba (seg s.data.toList 128 168))
      obtain ⟨G1, c1, k1, r1, f1⟩ := decode_full (ba (seg s.data.toList 296 168))
      obtain ⟨G2, c2, k2, r2, f2⟩ := decode_full (ba (seg s.data.toList 469 168))
      have tn := tab_narrow s.data.toList
      have h := dec_form s (tab s.data.toList) (Pack.val (seg s.data.toList 119 1)) _ _ _ (s.data.toList.drop 637) G0 G1 G2 c0 c1 c2 (by rw [List.length_drop, hl]) (parse_raw s.data.toList hl) hok (tab_wide _) tn.1 tn.2.1 tn.2.2.1 tn.2.2.2 (one_narrow _ _) (seg_length _ _ _ (by omega)) (seg_length _ _ _ (by omega)) (seg_length _ _ _ (by omega)) k0 k1 k2
      have h' := rdec_form s hs hok G0 G1 G2 c0 c1 c2 r0 r1 r2
      cases hg : (!spoilt (Pack.val (seg s.data.toList 119 1)) c0 c1 c2 && Pk.may ⟨tab s.data.toList, decide (Pack.val (seg s.data.toList 119 1) = 1), G0, G1, G2⟩)
      · rw [hg] at h h'
        exact ⟨Pk.zero, 52, h, h'⟩
      · rw [hg, if_pos rfl] at h h'
        exact ⟨_, 0, h, h'⟩
  · have hb : ((s.size : Int) == 641) = false := by rw [beq_eq_false_iff_ne]; omega
    exact ⟨Pk.zero, 50, dec_long s hb, rdec_long s hb⟩

set_option maxHeartbeats 2000000 in
theorem walk (s : ByteArray) (hs : s.size ≤ 140737488351232) (w : World) : Calls Try.prog 4 #[.string s] w fun e w' => e = .returned (.bool true) ∧ Below w.heap.size w w' := by
  have hseal := fun w => rseal_any s w hs
  generalize s ++ Crc.four (Crc.sum s.data.toList) = u at hseal
  obtain ⟨P, c, h1, h2⟩ := decode_both_pk s
  obtain ⟨Q, d, h3, h4⟩ := decode_both_pk u
  have kp := eql_packet P
  have kq := eql_packet Q
  clear hs
  go_enter Try.func4, Try.ntmps4
  go_wp2_with fail
  refine (h1 _).mono ?_
  rintro r w1 ⟨rfl, hb1⟩
  obtain ⟨W1, hW1⟩ : ∃ W, w1.alloc (.cells (pkc P) 35) = W := ⟨_, rfl⟩
  have A1 : Blk w1.heap.size (pkc P) 35 W1 := by rw [← hW1]; exact blk_new w1 _ _
  have b1 : Below w.heap.size w W1 := by rw [← hW1]; exact hb1.alloc hb1.size _
  clear hb1 h1
  go_wp2_with (first | refine alloc_pk rfl rfl ?_ | (refine store_new (cells := pkc P) rfl 35 _ _ rfl rfl rfl (by rw [pkc_size]; exact size35) (by rw [pkc_size, pkc_size]) (pkc_one _) ?_; rw [hW1]))
  refine (h2 _).mono ?_
  rintro r w2 ⟨rfl, hb2⟩
  obtain ⟨W2, hW2⟩ : ∃ W, w2.alloc (.cells (pkc P) 35) = W := ⟨_, rfl⟩
  have A2 : Blk w1.heap.size (pkc P) 35 W2 := by rw [← hW2]; exact (A1.below hb2).alloc _
  have B2 : Blk w2.heap.size (pkc P) 35 W2 := by rw [← hW2]; exact blk_new w2 _ _
  have b2 : Below w.heap.size w W2 := by rw [← hW2]; exact (b1.trans (hb2.mono b1.size)).alloc (Nat.le_trans b1.size hb2.size) _
  clear hb2 h2 A1 b1 hW1
  go_wp2_with (first | refine alloc_pk rfl rfl ?_ | (refine store_new (cells := pkc P) rfl 35 _ _ rfl rfl rfl (by rw [pkc_size]; exact size35) (by rw [pkc_size, pkc_size]) (pkc_one _) ?_; rw [hW2]))
  refine (hseal _).mono ?_
  rintro r w3 ⟨rfl, hb3⟩
  have A3 := A2.below hb3
  have B3 := B2.below hb3
  have b3 := b2.trans (hb3.mono b2.size)
  clear hb3 A2 B2 b2 hW2
  go_wp2_with fail
  refine (h3 _).mono ?_
  rintro r w4 ⟨rfl, hb4⟩
  obtain ⟨W4, hW4⟩ : ∃ W, w4.alloc (.cells (pkc Q) 35) = W := ⟨_, rfl⟩
  have A4 : Blk w1.heap.size (pkc P) 35 W4 := by rw [← hW4]; exact (A3.below hb4).alloc _
  have B4 : Blk w2.heap.size (pkc P) 35 W4 := by rw [← hW4]; exact (B3.below hb4).alloc _
  have C4 : Blk w4.heap.size (pkc Q) 35 W4 := by rw [← hW4]; exact blk_new w4 _ _
  have b4 : Below w.heap.size w W4 := by rw [← hW4]; exact (b3.trans (hb4.mono b3.size)).alloc (Nat.le_trans b3.size hb4.size) _
  clear hb4 h3 A3 B3 b3
  go_wp2_with (first | refine alloc_pk rfl rfl ?_ | (refine store_new (cells := pkc Q) rfl 35 _ _ rfl rfl rfl (by rw [pkc_size]; exact size35) (by rw [pkc_size, pkc_size]) (pkc_one _) ?_; rw [hW4]))
  refine (hseal _).mono ?_
  rintro r w5 ⟨rfl, hb5⟩
  have A5 := A4.below hb5
  have B5 := B4.below hb5
  have C5 := C4.below hb5
  have b5 := b4.trans (hb5.mono b4.size)
  clear hb5 A4 B4 C4 b4 hW4 hseal
  go_wp2_with fail
  refine (h4 _).mono ?_
  rintro r w6 ⟨rfl, hb6⟩
  obtain ⟨W6, hW6⟩ : ∃ W, w6.alloc (.cells (pkc Q) 35) = W := ⟨_, rfl⟩
  have A6 : Blk w1.heap.size (pkc P) 35 W6 := by rw [← hW6]; exact (A5.below hb6).alloc _
  have B6 : Blk w2.heap.size (pkc P) 35 W6 := by rw [← hW6]; exact (B5.below hb6).alloc _
  have C6 : Blk w4.heap.size (pkc Q) 35 W6 := by rw [← hW6]; exact (C5.below hb6).alloc _
  have D6 : Blk w6.heap.size (pkc Q) 35 W6 := by rw [← hW6]; exact blk_new w6 _ _
  have b6 : Below w.heap.size w W6 := by rw [← hW6]; exact (b5.trans (hb6.mono b5.size)).alloc (Nat.le_trans b5.size hb6.size) _
  clear hb6 h4 A5 B5 C5 b5
  go_wp2_with (first | refine alloc_pk rfl rfl ?_ | (refine store_new (cells := pkc Q) rfl 35 _ _ rfl rfl rfl (by rw [pkc_size]; exact size35) (by rw [pkc_size, pkc_size]) (pkc_one _) ?_; rw [hW6]))
  refine (fixed_any _).mono ?_
  rintro r w7 ⟨rfl, hb7⟩
  have A7 := A6.below hb7
  have B7 := B6.below hb7
  have C7 := C6.below hb7
  have D7 := D6.below hb7
  have b7 := b6.trans (hb7.mono b6.size)
  clear hb7 A6 B6 C6 D6 b6 hW6
  go_wp2_with (first | refine load_want (by rfl) 35 _ rfl A7 rfl Try.underlying35 rfl (by rw [pkc_size]; exact size35) ?_ | refine load_want (by rfl) 35 _ rfl B7 rfl Try.underlying35 rfl (by rw [pkc_size]; exact size35) ?_ | refine load_want (by rfl) 35 _ rfl C7 rfl Try.underlying35 rfl (by rw [pkc_size]; exact size35) ?_ | refine load_want (by rfl) 35 _ rfl D7 rfl Try.underlying35 rfl (by rw [pkc_size]; exact size35) ?_)
  go_ret
  exact ⟨rfl, b7⟩

set_option maxRecDepth 100000 in
theorem lifted (os : Os) (started : os.Started) (H : Type) (enc : TypeId × Value → H) :
    ReturnsInHanded {} Try.checked os 4 .any (Rows.packetDecodesSpec.pre6 enc Try.prog Try.f4 Rows.packetDecodesRow.domain false) (Rows.packetDecodesSpec.post enc Try.prog Try.f4 false true false false) := by
  refine returnsInHanded_of_change_sized (C := Try.checked) own started (by kernel_rfl) Try.func4
    (ChangeSpec.witness6 (enc := enc) (C := Try.checked) false ⟨#[], #[.string ByteArray.empty], []⟩ 8 (by kernel_rfl) (by kernel_rfl) (by kernel_rfl) (by kernel_rfl)) ?_
  intro W base args ds gs before hval0 hW hcnd hsz0 _
  have hval : ∀ (j : Nat) t v, Try.f4.params[j]? = some t → args[j]? = some v → Value.okWide Try.prog W .any base t v := hval0
  have hsz : (DataW.weightsEach Try.prog (Try.f4.params.toList ++ Rows.packetDecodesSpec.plain.varTypes Try.prog) (ds ++ gs)).all (· ≤ reachBytes) = true := hsz0
  have hW' := hW
  obtain ⟨p, q, hA0, hV, rfl, hfz, hnd⟩ := hW
  have hA : DataW.TrodAll enc Try.prog W 0 (fun _ => true) true Try.f4.params.toList args.toList ds p := hA0
  rw [Try.params4] at hA hval hsz

  obtain ⟨v0, vs0, d0, ds0, p0, q0, hargs, rfl, rfl, h0, r0⟩ := trodAll_cons hA
  obtain ⟨rfl, rfl, rfl⟩ := trodAll_nil r0
  obtain rfl : args = #[v0] := by cases args; simp_all
  obtain ⟨rfl, rfl⟩ := trodVars_none hV
  obtain ⟨a0, rfl, rfl, rfl, w0⟩ := open_string Try.underlying9 (hval 0 9 v0 rfl rfl) h0
  have z0 : a0.size ≤ 140737488351232 := by
    have hz := sized_string hsz (j := 0) (t := 9) rfl rfl
    rw [length_bytes] at hz
    exact hz
  have hA2 := hA0
  clear hA0 hval0 hsz0
  simp only [List.append_nil] at hW'
  refine (walk a0 z0 W).mono fun e W' ⟨he, bel⟩ => ?_
  subst he
  exact ⟨_, rfl, _, _, _, [], _, [], hW', trodAll_mk1 (shut_bool Try.underlying4 _), (stays_all laidOut bel (by kernel_rfl) hA2), rfl, bel.frame _, fun h => by cases h⟩

theorem over : Rows.packetDecodesRow.holds Try.pinned (OpenSpec.ofChange Rows.packetDecodesSpec) :=
  OpenClaim.holds_of_wide 4 Try.f4 rfl rfl rfl rfl rfl rfl rfl ⟨rfl, rfl, rfl, rfl, rfl⟩ rfl rfl rfl rfl rfl (by kernel_rfl) Try.func4 (by kernel_rfl)
    (of_decide_eq_true (by kernel_rfl)) (by unfold Func.isWrapper; first | (rw [if_pos (by decide +kernel)]; kernel_rfl) | (rw [if_neg (by decide +kernel)]; exact ⟨rfl, rfl⟩))
    (fun os started H enc _ => lifted os started H enc)

end Go.Proofs.Ytmbddjejbmjmfaa.packetDecodes
namespace Go.Proofs.Ytmbddjejbmjmfaa

theorem packetDecodes_holds : Rows.PacketDecodesSaid := packetDecodes.over
#print axioms packetDecodes_holds

end Go.Proofs.Ytmbddjejbmjmfaa
