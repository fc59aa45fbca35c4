/-
  A frame that may be is decoded as it was, with 168 bytes, and what is decoded is encoded as the same bytes: the law FrameBack returns true for every input.
  No condition beyond the form's own.
-/
import Derived.Test.YtdpghocgljnobaaRows
import Derived.Test.YtdpghocgljnobaaFrFy
import Derived.Test.YtdpghocgljnobaaFrIn
import Derived.WalkKit
import Derived.ProofKit
import Derived.OpenShut
import Derived.ShutString
import Derived.SizedLaws
import Derived.ChangeOld
import Derived.Below
namespace Go.Proofs.Ytdpghocgljnobaa.frameBack
open Go.Sort Go.ChangeShapes Go.WideShapes Go.ChangeAt Go.RowKit
open Go.ChangeMaps (open_string shut_string)
set_option linter.unusedVariables false

theorem own : ownKnob Try.prog.godebug = none := by kernel_rfl
theorem length_bytes (s : ByteArray) : s.data.toList.length = s.size := by rw [Array.length_toList]; rfl

theorem part_bytes (F : Nat → En) (x : Nat) (hx : x < 6) : part (Fr.bytes F) x = (F x).bytes := by
  have hu : ∀ m, (Fr.upto F (m + 1)) = Fr.upto F m ++ (F m).bytes.data.toList := fun _ => rfl
  have hl := Fr.upto_length F
  have hz : ∀ m, (F m).bytes.data.toList.length = 28 := fun m => by rw [Array.length_toList]; exact (F m).bytes_size
  have key : ((Fr.upto F 6).drop (28 * x)).take 28 = (F x).bytes.data.toList := by
    have ht : ∀ k, (Fr.upto F (x + 1 + k)).take (28 * x + 28) = Fr.upto F (x + 1) := by
      intro k
      induction k with
      | zero => rw [Nat.add_zero, List.take_of_length_le (by rw [hl]; omega)]
      | succ k ih =>
        show (Fr.upto F (x + 1 + k + 1)).take _ = _
        rw [hu, List.take_append_of_le_length (by rw [hl]; omega), ih]
    have h6 := ht (5 - x)
    rw [show x + 1 + (5 - x) = 6 by omega] at h6
    have e : ((Fr.upto F 6).drop (28 * x)).take 28 = ((Fr.upto F 6).take (28 * x + 28)).drop (28 * x) := by
      rw [List.drop_take]; congr 1; omega
    rw [e, h6, hu, List.drop_append_of_le_length (by rw [hl]; omega), List.drop_of_length_le (by rw [hl]; omega), List.nil_append]
  apply ByteArray.ext
  apply Array.toList_inj.1
  rw [← key]
  unfold part
  rw [ByteArray.data_extract, Array.toList_extract]
  show ((Fr.upto F 6).toArray.toList).extract _ _ = _
  simp [List.extract, Nat.add_sub_cancel_left]

theorem enDecode_back (e : En) (hm : e.may = true) : Tells 24 e.bytes (some e) := by
  intro w
  obtain ⟨a, b, c, ha, hb, hc, h1, h2, h3, h4, h5, h6, hbs⟩ := En.may_fit hm
  have h := decode_back a b c e.se e.n e.t (by rw [← ha, ← hb, ← hc]; exact hm) h1 h2 h3 h4 h5 h6 w
  rw [← hbs, ← ha, ← hb, ← hc] at h
  exact h

theorem soFar_all (F : Nat → En) : frc (soFar (fun x => some (F x)) 6) = frc F := by
  apply frc_congr
  intro y hy
  simp [soFar, hy]

theorem decode_bytes (F : Nat → En) (hm : Fr.may F = true) (w : World) : Calls Try.prog 10 #[.string (Fr.bytes F)] w fun r w' => r = .returned (.tuple #[.agg (frc F), .int .i64 0]) ∧ Below w.heap.size w w' := by
  have h := frDecode_gen (Fr.bytes F) (Fr.bytes_size F) (fun x => some (F x)) (fun x hx => by rw [part_bytes F x hx]; exact enDecode_back (F x) ((Fr.may_all F).1 hm x hx)) w
  have hg : goodUp (fun x => some (F x)) = true := (goodUp_iff _).2 fun _ _ => rfl
  rw [hg, if_pos rfl, soFar_all] at h
  exact h

theorem decode_opt (s : ByteArray) : ∃ o : Option En, Tells 24 s o ∧ Tells 25 s o ∧ (∀ e, o = some e → e.may = true ∧ s = e.bytes) := by
  rcases decode_any s with ⟨h1, h2⟩ | ⟨k, sv, g, se, n, t, hs, hm, h1, h2⟩
  · exact ⟨none, h1, h2, fun e h => by cases h⟩
  · exact ⟨some ⟨k, sv, g, se, n, t⟩, h1, h2, fun e h => by cases h; exact ⟨hm, hs⟩⟩

theorem cut_all (s : ByteArray) (hs : s.size = 168) (F : Nat → En) (h : ∀ x, x < 6 → part s x = (F x).bytes) : s = Fr.bytes F := by
  have key : ∀ m, m ≤ 6 → Fr.upto F m = s.data.toList.take (28 * m) := by
    intro m hm
    induction m with
    | zero => rfl
    | succ m ih =>
      show Fr.upto F m ++ (F m).bytes.data.toList = _
      rw [ih (by omega), ← h m (by omega)]
      unfold part
      rw [ByteArray.data_extract, Array.toList_extract]
      simp only [List.extract, Nat.add_sub_cancel_left]
      rw [show 28 * (m + 1) = 28 * m + 28 by omega, List.take_add]
  apply ByteArray.ext
  apply Array.toList_inj.1
  show _ = (Fr.upto F 6).toArray.toList
  rw [key 6 (by omega)]
  rw [List.take_of_length_le (by rw [Array.length_toList]; show s.size ≤ _; omega)]

theorem decode_all (s : ByteArray) : ∃ (G : Nat → En) (c : Int),
    (∀ w, Calls Try.prog 10 #[.string s] w fun r w' => r = .returned (.tuple #[.agg (frc G), .int .i64 c]) ∧ Below w.heap.size w w') ∧
    ((c = 0 ∧ Fr.may G = true ∧ s = Fr.bytes G) ∨ (¬ c = 0)) := by
  by_cases hs : s.size = 168
  · obtain ⟨D, hD⟩ := Classical.axiomOfChoice (fun x => decode_opt (part s x))
    have h := frDecode_gen s hs D (fun x _ => (hD x).1)
    cases hg : goodUp D
    · rw [hg] at h
      exact ⟨zeroFr, 30, h, .inr (by decide)⟩
    · rw [hg, if_pos rfl] at h
      have hall := (goodUp_iff D).1 hg
      have hsome : ∀ x, x < 6 → (soFar D 6 x).may = true ∧ part s x = (soFar D 6 x).bytes := by
        intro x hx
        obtain ⟨e, he⟩ := Option.isSome_iff_exists.1 (hall x hx)
        have hv : soFar D 6 x = e := by simp [soFar, hx, he]
        rw [hv]
        exact (hD x).2.2 e he
      refine ⟨soFar D 6, 0, h, .inl ⟨rfl, (Fr.may_all _).2 fun x hx => (hsome x hx).1, cut_all s hs _ fun x hx => (hsome x hx).2⟩⟩
  · exact ⟨zeroFr, 40, frDecode_long s (by rw [beq_eq_false_iff_ne]; omega), .inr (by decide)⟩

set_option maxHeartbeats 2000000 in
theorem walk_may (F : Nat → En) (hm : Fr.may F = true) (s : ByteArray) (w : World) : Calls Try.prog 5 #[.agg (frc F), .string s] w fun e w' => e = .returned (.bool true) ∧ Below w.heap.size w w' := by
  have henc := fun w => frEncode F w
  rw [hm, if_pos rfl] at henc
  have hback := decode_bytes F hm
  have hz : (((Fr.bytes F).size : Int) == 168) = true := by rw [Fr.bytes_size]; rfl
  have hz2 : (((Fr.bytes F).size : Int) != 168) = false := by rw [Fr.bytes_size]; rfl
  generalize Fr.bytes F = bs at henc hback hz hz2
  clear hm
  obtain ⟨G, c, hdec, hcase⟩ := decode_all s
  have kne := neq_frame F
  have hF := blk_new w (frc F) 27
  have hb0 := below_box w (.cells (frc F) 27)
  go_enter Try.func5, Try.ntmps5
  go_wp2_with (first | refine alloc_fr rfl rfl ?_ | refine store_new rfl 27 _ _ rfl rfl rfl (by rw [frc_size]; exact size27) ((frc_size _).trans (frc_size _).symm) (frc_one _) ?_ | refine load_blk rfl 27 _ rfl hF rfl Try.underlying27 rfl (by rw [frc_size]; exact size27) ?_)
  refine (henc _).mono ?_
  rintro r w1 ⟨rfl, hb1⟩
  have hF1 := hF.below hb1
  have hw1 := hb0.trans (hb1.mono hb0.size)
  clear hb1 hF hb0 henc
  go_wp2_with fail
  refine (hback _).mono ?_
  rintro r w2 ⟨rfl, hb2⟩
  have hF2 := (hF1.below hb2).alloc (.cells (frc F) 27)
  have hw2 := hw1.trans (hb2.mono hw1.size)
  have hw3 := hw2.alloc hw2.size (.cells (frc F) 27)
  have hG2 := blk_new w2 (frc F) 27
  clear hb2 hF1 hback hw1 hw2
  go_wp2_with (first | refine alloc_fr rfl rfl ?_ | refine store_new rfl 27 _ _ rfl rfl rfl (by rw [frc_size]; exact size27) ((frc_size _).trans (frc_size _).symm) (frc_one _) ?_ | refine load_blk rfl 27 _ rfl hF2 rfl Try.underlying27 rfl (by rw [frc_size]; exact size27) ?_)
  refine (fixed_any _).mono ?_
  rintro r w3 ⟨rfl, hb3⟩
  have hF3 := hF2.below hb3
  have hG3 := hG2.below hb3
  have hw4 := hw3.trans (hb3.mono hw3.size)
  clear hb3 hF2 hG2 hw3
  go_wp2_with (first | refine load_want (by rfl) 27 _ rfl hF3 rfl Try.underlying27 rfl (by rw [frc_size]; exact size27) ?_ | refine load_want (by rfl) 27 _ rfl hG3 rfl Try.underlying27 rfl (by rw [frc_size]; exact size27) ?_)
  refine (hdec _).mono ?_
  rintro r w4 ⟨rfl, hb4⟩
  have hw5 := hw4.trans (hb4.mono hw4.size)
  have hw6 := hw5.alloc hw5.size (.cells (frc G) 27)
  have hG4 := blk_new w4 (frc G) 27
  clear hb4 hF3 hG3 hw4 hw5 hdec
  have henc2 := frEncode G
  rcases hcase with ⟨rfl, hmG, hsG⟩ | hc
  · rw [hmG, if_pos rfl, ← hsG] at henc2
    have hss : (s.toList == s.toList) = true := by simp
    clear hsG
    go_wp2_with (first | refine alloc_fr rfl rfl ?_ | refine store_new rfl 27 _ _ rfl rfl rfl (by rw [frc_size]; exact size27) ((frc_size _).trans (frc_size _).symm) (frc_one _) ?_ | refine load_blk rfl 27 _ rfl hG4 rfl Try.underlying27 rfl (by rw [frc_size]; exact size27) ?_)
    refine (henc2 _).mono ?_
    rintro r w5 ⟨rfl, hb5⟩
    go_wp2_with fail
    go_ret
    exact ⟨rfl, hw6.trans (hb5.mono hw6.size)⟩
  · obtain ⟨t0, c0, he2⟩ : ∃ (t0 : ByteArray) (c0 : Int), ∀ w, Calls Try.prog 8 #[.agg (frc G)] w fun r w' => r = .returned (.tuple #[.string t0, .int .i64 c0]) ∧ Below w.heap.size w w' := by
      cases hmG : Fr.may G
      · rw [hmG] at henc2; exact ⟨_, _, henc2⟩
      · rw [hmG] at henc2; exact ⟨_, _, henc2⟩
    have hc1 : (c == 0) = false := by rw [beq_eq_false_iff_ne]; exact hc
    have hc2 : (c != 0) = true := by rw [bne_iff_ne]; exact hc
    clear henc2 hc
    go_wp2_with (first | refine alloc_fr rfl rfl ?_ | refine store_new rfl 27 _ _ rfl rfl rfl (by rw [frc_size]; exact size27) ((frc_size _).trans (frc_size _).symm) (frc_one _) ?_ | refine load_blk rfl 27 _ rfl hG4 rfl Try.underlying27 rfl (by rw [frc_size]; exact size27) ?_)
    refine (he2 _).mono ?_
    rintro r w5 ⟨rfl, hb5⟩
    go_wp2_with fail
    go_ret
    exact ⟨rfl, hw6.trans (hb5.mono hw6.size)⟩

set_option maxHeartbeats 2000000 in
theorem walk_no (F : Nat → En) (hm : Fr.may F = false) (s : ByteArray) (w : World) : Calls Try.prog 5 #[.agg (frc F), .string s] w fun e w' => e = .returned (.bool true) ∧ Below w.heap.size w w' := by
  have henc := fun w => frEncode F w
  rw [hm] at henc
  change ∀ w, Calls Try.prog 8 #[.agg (frc F)] w fun r w' => r = .returned (.tuple #[.string ⟨#[]⟩, .int .i64 30]) ∧ Below w.heap.size w w' at henc
  have hback := frDecode_long ⟨#[]⟩ (by decide)
  clear hm
  obtain ⟨G, c, hdec, hcase⟩ := decode_all s
  have hF := blk_new w (frc F) 27
  have hb0 := below_box w (.cells (frc F) 27)
  go_enter Try.func5, Try.ntmps5
  go_wp2_with (first | refine alloc_fr rfl rfl ?_ | refine store_new rfl 27 _ _ rfl rfl rfl (by rw [frc_size]; exact size27) ((frc_size _).trans (frc_size _).symm) (frc_one _) ?_ | refine load_blk rfl 27 _ rfl hF rfl Try.underlying27 rfl (by rw [frc_size]; exact size27) ?_)
  refine (henc _).mono ?_
  rintro r w1 ⟨rfl, hb1⟩
  have hF1 := hF.below hb1
  have hw1 := hb0.trans (hb1.mono hb0.size)
  clear hb1 hF hb0 henc
  go_wp2_with fail
  refine (hback _).mono ?_
  rintro r w2 ⟨rfl, hb2⟩
  have hF2 := (hF1.below hb2).alloc (.cells (frc zeroFr) 27)
  have hw2 := hw1.trans (hb2.mono hw1.size)
  have hw3 := hw2.alloc hw2.size (.cells (frc zeroFr) 27)
  have hG2 := blk_new w2 (frc zeroFr) 27
  clear hb2 hF1 hback hw1 hw2
  go_wp2_with (first | refine alloc_fr rfl rfl ?_ | refine store_new rfl 27 _ _ rfl rfl rfl (by rw [frc_size]; exact size27) ((frc_size _).trans (frc_size _).symm) (frc_one _) ?_ | refine load_blk rfl 27 _ rfl hF2 rfl Try.underlying27 rfl (by rw [frc_size]; exact size27) ?_)
  refine (fixed_any _).mono ?_
  rintro r w3 ⟨rfl, hb3⟩
  have hF3 := hF2.below hb3
  have hG3 := hG2.below hb3
  have hw4 := hw3.trans (hb3.mono hw3.size)
  clear hb3 hF2 hG2 hw3
  go_wp2_with (first | refine load_want (by rfl) 27 _ rfl hF3 rfl Try.underlying27 rfl (by rw [frc_size]; exact size27) ?_ | refine load_want (by rfl) 27 _ rfl hG3 rfl Try.underlying27 rfl (by rw [frc_size]; exact size27) ?_)
  refine (hdec _).mono ?_
  rintro r w4 ⟨rfl, hb4⟩
  have hw5 := hw4.trans (hb4.mono hw4.size)
  have hw6 := hw5.alloc hw5.size (.cells (frc G) 27)
  have hG4 := blk_new w4 (frc G) 27
  clear hb4 hF3 hG3 hw4 hw5 hdec
  have henc2 := frEncode G
  rcases hcase with ⟨rfl, hmG, hsG⟩ | hc
  · rw [hmG, if_pos rfl, ← hsG] at henc2
    have hss : (s.toList == s.toList) = true := by simp
    clear hsG
    go_wp2_with (first | refine alloc_fr rfl rfl ?_ | refine store_new rfl 27 _ _ rfl rfl rfl (by rw [frc_size]; exact size27) ((frc_size _).trans (frc_size _).symm) (frc_one _) ?_ | refine load_blk rfl 27 _ rfl hG4 rfl Try.underlying27 rfl (by rw [frc_size]; exact size27) ?_)
    refine (henc2 _).mono ?_
    rintro r w5 ⟨rfl, hb5⟩
    go_wp2_with fail
    go_ret
    exact ⟨rfl, hw6.trans (hb5.mono hw6.size)⟩
  · obtain ⟨t0, c0, he2⟩ : ∃ (t0 : ByteArray) (c0 : Int), ∀ w, Calls Try.prog 8 #[.agg (frc G)] w fun r w' => r = .returned (.tuple #[.string t0, .int .i64 c0]) ∧ Below w.heap.size w w' := by
      cases hmG : Fr.may G
      · rw [hmG] at henc2; exact ⟨_, _, henc2⟩
      · rw [hmG] at henc2; exact ⟨_, _, henc2⟩
    have hc1 : (c == 0) = false := by rw [beq_eq_false_iff_ne]; exact hc
    have hc2 : (c != 0) = true := by rw [bne_iff_ne]; exact hc
    clear henc2 hc
    go_wp2_with (first | refine alloc_fr rfl rfl ?_ | refine store_new rfl 27 _ _ rfl rfl rfl (by rw [frc_size]; exact size27) ((frc_size _).trans (frc_size _).symm) (frc_one _) ?_ | refine load_blk rfl 27 _ rfl hG4 rfl Try.underlying27 rfl (by rw [frc_size]; exact size27) ?_)
    refine (he2 _).mono ?_
    rintro r w5 ⟨rfl, hb5⟩
    go_wp2_with fail
    go_ret
    exact ⟨rfl, hw6.trans (hb5.mono hw6.size)⟩

theorem walk (F : Nat → En) (s : ByteArray) (_hs : s.size ≤ 140737488351232) (w : World) : Calls Try.prog 5 #[.agg (frc F), .string s] w fun e w' => e = .returned (.bool true) ∧ Below w.heap.size w w' := by
  cases hm : Fr.may F
  · exact walk_no F hm s w
  · exact walk_may F hm s w

set_option maxRecDepth 100000 in
theorem lifted (os : Os) (started : os.Started) (H : Type) (enc : TypeId × Value → H) :
    ReturnsInHanded {} Try.checked os 5 .any (Rows.frameBackSpec.pre6 enc Try.prog Try.f5 Rows.frameBackRow.domain false) (Rows.frameBackSpec.post enc Try.prog Try.f5 false true false false) := by
  refine returnsInHanded_of_change_sized (C := Try.checked) own started (by kernel_rfl) Try.func5
    (ChangeSpec.witness6 (enc := enc) (C := Try.checked) false ⟨#[], #[.agg #[.int .i64 0, .int .i64 0, .int .i64 0, .int .u64 0, .int .u64 0, .string ByteArray.empty, .int .i64 0, .int .i64 0, .int .i64 0, .int .u64 0, .int .u64 0, .string ByteArray.empty, .int .i64 0, .int .i64 0, .int .i64 0, .int .u64 0, .int .u64 0, .string ByteArray.empty, .int .i64 0, .int .i64 0, .int .i64 0, .int .u64 0, .int .u64 0, .string ByteArray.empty, .int .i64 0, .int .i64 0, .int .i64 0, .int .u64 0, .int .u64 0, .string ByteArray.empty, .int .i64 0, .int .i64 0, .int .i64 0, .int .u64 0, .int .u64 0, .string ByteArray.empty], .string ByteArray.empty], []⟩ 8 (by kernel_rfl) (by kernel_rfl) (by kernel_rfl) (by kernel_rfl)) ?_
  intro W base args ds gs before hval0 hW hcnd hsz0 _
  have hval : ∀ (j : Nat) t v, Try.f5.params[j]? = some t → args[j]? = some v → Value.okWide Try.prog W .any base t v := hval0
  have hsz : (DataW.weightsEach Try.prog (Try.f5.params.toList ++ Rows.frameBackSpec.plain.varTypes Try.prog) (ds ++ gs)).all (· ≤ reachBytes) = true := hsz0
  have hW' := hW
  obtain ⟨p, q, hA0, hV, rfl, hfz, hnd⟩ := hW
  have hA : DataW.TrodAll enc Try.prog W 0 (fun _ => true) true Try.f5.params.toList args.toList ds p := hA0
  rw [Try.params5] at hA hval hsz

  obtain ⟨v0, vs0, d0, ds0, p0, q0, hargs, rfl, rfl, h0, r0⟩ := trodAll_cons hA
  obtain ⟨v1, vs1, d1, ds1, p1, q1, rfl, rfl, rfl, h1, r1⟩ := trodAll_cons r0
  obtain ⟨rfl, rfl, rfl⟩ := trodAll_nil r1
  obtain rfl : args = #[v0, v1] := by cases args; simp_all
  obtain ⟨rfl, rfl⟩ := trodVars_none hV
  obtain ⟨F0, rfl⟩ := open_frame (by obtain ⟨cs, h1, _⟩ := (by simpa only [Value.okWide, Try.underlying27] using hval 0 27 v0 rfl rfl : ∃ cs, v0 = .agg cs ∧ _); exact ⟨cs, h1⟩) h0
  obtain ⟨a1, rfl, rfl, rfl, w1⟩ := open_string Try.underlying9 (hval 1 9 v1 rfl rfl) h1
  have z1 : a1.size ≤ 140737488351232 := by
    have hz := sized_string hsz (j := 1) (t := 9) rfl rfl
    rw [length_bytes] at hz
    exact hz
  have hA2 := hA0
  clear hA0 hval0 hsz0
  simp only [List.append_nil] at hW'
  refine (walk F0 a1 z1 W).mono fun e W' ⟨he, bel⟩ => ?_
  subst he
  exact ⟨_, rfl, _, _, _, [], _, [], hW', trodAll_mk1 (shut_bool Try.underlying4 _), (stays_all laidOut bel (by kernel_rfl) hA2), rfl, bel.frame _, fun h => by cases h⟩

theorem over : Rows.frameBackRow.holds Try.pinned (OpenSpec.ofChange Rows.frameBackSpec) :=
  OpenClaim.holds_of_wide 5 Try.f5 rfl rfl rfl rfl rfl rfl rfl ⟨rfl, rfl, rfl, rfl, rfl⟩ rfl rfl rfl rfl rfl (by kernel_rfl) Try.func5 (by kernel_rfl)
    (of_decide_eq_true (by kernel_rfl)) (by unfold Func.isWrapper; first | (rw [if_pos (by decide +kernel)]; kernel_rfl) | (rw [if_neg (by decide +kernel)]; exact ⟨rfl, rfl⟩))
    (fun os started H enc _ => lifted os started H enc)

end Go.Proofs.Ytdpghocgljnobaa.frameBack
namespace Go.Proofs.Ytdpghocgljnobaa

theorem frameBack_holds : Rows.FrameBackSaid := frameBack.over
#print axioms frameBack_holds

end Go.Proofs.Ytdpghocgljnobaa
