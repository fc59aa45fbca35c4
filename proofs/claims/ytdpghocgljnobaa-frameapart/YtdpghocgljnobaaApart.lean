/-
  Whatever one tenant's lane holds, the bytes of the others stand where they stood, and are what they were: the law FrameApart returns true for every input.
  No condition beyond the form's own.
-/
import Derived.Test.YtdpghocgljnobaaRows
import Derived.Test.YtdpghocgljnobaaFrFy
import Derived.Test.YtdpghocgljnobaaFrIn
import Derived.WalkKit
import Derived.ProofKit
import Derived.OpenShut
import Derived.ShutString
import Derived.SizedLaws
import Derived.ChangeOld
import Derived.Below
import Derived.BigQuiet
namespace Go.Proofs.Ytdpghocgljnobaa.frameApart
open Go.Sort Go.ChangeShapes Go.WideShapes Go.ChangeAt Go.RowKit
open Go.ChangeMaps (open_string shut_string)
set_option linter.unusedVariables false

theorem own : ownKnob Try.prog.godebug = none := by kernel_rfl
theorem length_bytes (s : ByteArray) : s.data.toList.length = s.size := by rw [Array.length_toList]; rfl

theorem upto_get (F : Nat → En) (m i : Nat) (hi : i < 28 * m) : (Fr.upto F m)[i]? = (F (i / 28)).bytes.data.toList[i % 28]? := by
  induction m with
  | zero => omega
  | succ m ih =>
    show (Fr.upto F m ++ (F m).bytes.data.toList)[i]? = _
    by_cases h : i < 28 * m
    · rw [List.getElem?_append_left (by rw [Fr.upto_length]; exact h)]
      exact ih h
    · rw [List.getElem?_append_right (by rw [Fr.upto_length]; omega), Fr.upto_length]
      have e1 : i / 28 = m := by omega
      have e2 : i - 28 * m = i % 28 := by omega
      rw [e1, e2]

theorem bytes_get (F : Nat → En) (i : Nat) (hi : i < (Fr.bytes F).size) : some (Fr.bytes F)[i] = (F (i / 28)).bytes.data.toList[i % 28]? := by
  have hs := Fr.bytes_size F
  rw [← upto_get F 6 i (by omega)]
  have : (Fr.upto F 6)[i]? = (Fr.bytes F).data.toList[i]? := rfl
  rw [this, List.getElem?_eq_getElem (by rw [Array.length_toList]; exact hi)]
  rfl

theorem apart_get (F : Nat → En) (n : Int) (L : List En) (i : Nat) (h1 : i < (Fr.bytes F).size) (h2 : i < (Fr.bytes (withL F n L)).size) (hn : ¬ ((i / 56 : Nat) : Int) = n) : (Fr.bytes F)[i] = (Fr.bytes (withL F n L))[i] := by
  have e : withL F n L (i / 28) = F (i / 28) := by
    unfold withL
    rw [if_neg]
    rw [show i / 28 / 2 = i / 56 by omega]
    exact hn
  have a := bytes_get F i h1
  have b := bytes_get (withL F n L) i h2
  rw [e, ← a] at b
  exact (Option.some.inj b).symm

set_option maxHeartbeats 2000000 in
theorem apart_no (F : Nat → En) (n : Int) (la : Option Addr) (L : List En) (lc : Nat) (b : ByteArray) (g : Int)
    (hA : ∀ w, Calls Try.prog 8 #[.agg (frc F)] w fun r w' => r = .returned (.tuple #[.string ⟨#[]⟩, .int .i64 30]) ∧ Below w.heap.size w w')
    (hB : ∀ w, Calls Try.prog 8 #[.agg (frc (withL F n L))] w fun r w' => r = .returned (.tuple #[.string b, .int .i64 g]) ∧ Below w.heap.size w w')
    (w : World) (hS : Sl la L w) : Calls Try.prog 6 #[.agg (frc F), .int .i64 n, .slice la L.length lc] w fun e w' => e = .returned (.bool true) ∧ Below w.heap.size w w' := by
  have hwith := frWith F n la L lc
  have hF := blk_new w (frc F) 27
  have hb0 := below_box w (.cells (frc F) 27)
  have hS0 := hS.below hb0
  generalize L.length = ln at hwith ⊢
  go_enter Try.func6, Try.ntmps6
  go_wp2_with (refine load_blk rfl 27 _ rfl hF rfl Try.underlying27 rfl (by rw [frc_size]; exact size27) ?_)
  refine (hA _).mono ?_
  rintro r w1 ⟨rfl, hb1⟩
  have hF1 := hF.below hb1
  have hS1 := hS0.below hb1
  have hw1 := hb0.trans (hb1.mono hb0.size)
  clear hb1 hF hb0 hS0 hA
  go_wp2_with (refine load_blk rfl 27 _ rfl hF1 rfl Try.underlying27 rfl (by rw [frc_size]; exact size27) ?_)
  refine (hwith _ hS1).mono ?_
  rintro r w2 ⟨rfl, hb2⟩
  have hw2 := hw1.trans (hb2.mono hw1.size)
  clear hb2 hF1 hw1 hS1 hwith
  go_wp2_with fail
  refine (hB _).mono ?_
  rintro r w3 ⟨rfl, hb3⟩
  have hw3 := hw2.trans (hb3.mono hw2.size)
  clear hb3 hw2 hB
  go_wp2_with fail
  refine (fixed_any _).mono ?_
  rintro r w4 ⟨rfl, hb4⟩
  have hw5 := hw3.trans (hb4.mono hw3.size)
  clear hb4 hw3 hS
  go_wp2_with fail
  refine (fixed_any _).mono ?_
  rintro r w5 ⟨rfl, hb5⟩
  go_wp2_with fail
  go_ret
  exact ⟨rfl, hw5.trans (hb5.mono hw5.size)⟩

set_option maxHeartbeats 2000000 in
theorem apart_other (F : Nat → En) (n : Int) (la : Option Addr) (L : List En) (lc : Nat) (a : ByteArray)
    (hA : ∀ w, Calls Try.prog 8 #[.agg (frc F)] w fun r w' => r = .returned (.tuple #[.string a, .int .i64 0]) ∧ Below w.heap.size w w')
    (hB : ∀ w, Calls Try.prog 8 #[.agg (frc (withL F n L))] w fun r w' => r = .returned (.tuple #[.string ⟨#[]⟩, .int .i64 30]) ∧ Below w.heap.size w w')
    (w : World) (hS : Sl la L w) : Calls Try.prog 6 #[.agg (frc F), .int .i64 n, .slice la L.length lc] w fun e w' => e = .returned (.bool true) ∧ Below w.heap.size w w' := by
  have hwith := frWith F n la L lc
  have hF := blk_new w (frc F) 27
  have hb0 := below_box w (.cells (frc F) 27)
  have hS0 := hS.below hb0
  generalize L.length = ln at hwith ⊢
  go_enter Try.func6, Try.ntmps6
  go_wp2_with (refine load_blk rfl 27 _ rfl hF rfl Try.underlying27 rfl (by rw [frc_size]; exact size27) ?_)
  refine (hA _).mono ?_
  rintro r w1 ⟨rfl, hb1⟩
  have hF1 := hF.below hb1
  have hS1 := hS0.below hb1
  have hw1 := hb0.trans (hb1.mono hb0.size)
  clear hb1 hF hb0 hS0 hA
  go_wp2_with (refine load_blk rfl 27 _ rfl hF1 rfl Try.underlying27 rfl (by rw [frc_size]; exact size27) ?_)
  refine (hwith _ hS1).mono ?_
  rintro r w2 ⟨rfl, hb2⟩
  have hw2 := hw1.trans (hb2.mono hw1.size)
  clear hb2 hF1 hw1 hS1 hwith
  go_wp2_with fail
  refine (hB _).mono ?_
  rintro r w3 ⟨rfl, hb3⟩
  have hw3 := hw2.trans (hb3.mono hw2.size)
  clear hb3 hw2 hB
  go_wp2_with fail
  refine (fixed_any _).mono ?_
  rintro r w4 ⟨rfl, hb4⟩
  have hw5 := hw3.trans (hb4.mono hw3.size)
  clear hb4 hw3 hS
  go_wp2_with fail
  refine (fixed_any _).mono ?_
  rintro r w5 ⟨rfl, hb5⟩
  go_wp2_with fail
  go_ret
  exact ⟨rfl, hw5.trans (hb5.mono hw5.size)⟩

set_option maxHeartbeats 2000000 in
theorem apart_both (F : Nat → En) (n : Int) (la : Option Addr) (L : List En) (lc : Nat) (a b : ByteArray) (ha : a.size = 168) (hb : b.size = 168) (hsame : ∀ (i : Nat) (h1 : i < a.size) (h2 : i < b.size), ¬ ((i / 56 : Nat) : Int) = n → a[i] = b[i])
    (hA : ∀ w, Calls Try.prog 8 #[.agg (frc F)] w fun r w' => r = .returned (.tuple #[.string a, .int .i64 0]) ∧ Below w.heap.size w w')
    (hB : ∀ w, Calls Try.prog 8 #[.agg (frc (withL F n L))] w fun r w' => r = .returned (.tuple #[.string b, .int .i64 0]) ∧ Below w.heap.size w w')
    (w : World) (hS : Sl la L w) : Calls Try.prog 6 #[.agg (frc F), .int .i64 n, .slice la L.length lc] w fun e w' => e = .returned (.bool true) ∧ Below w.heap.size w w' := by
  have hsame' : Hid (∀ (i : Nat) (h1 : i < a.size) (h2 : i < b.size), ¬ ((i / 56 : Nat) : Int) = n → a[i] = b[i]) := hsame
  clear hsame
  have ha' : Hid (a.size = 168) := ha
  have hb' : Hid (b.size = 168) := hb
  have hlen : ((a.size : Int) != (b.size : Int)) = false := by rw [ha, hb]; rfl
  have hlen2 : ((a.size : Int) == (b.size : Int)) = true := by rw [ha, hb]; rfl
  clear ha hb
  have hwith := frWith F n la L lc
  have hF := blk_new w (frc F) 27
  have hb0 := below_box w (.cells (frc F) 27)
  have hS0 := hS.below hb0
  generalize L.length = ln at hwith ⊢
  go_enter Try.func6, Try.ntmps6
  go_wp2_with (refine load_blk rfl 27 _ rfl hF rfl Try.underlying27 rfl (by rw [frc_size]; exact size27) ?_)
  refine (hA _).mono ?_
  rintro r w1 ⟨rfl, hb1⟩
  have hF1 := hF.below hb1
  have hS1 := hS0.below hb1
  have hw1 := hb0.trans (hb1.mono hb0.size)
  clear hb1 hF hb0 hS0 hA
  go_wp2_with (refine load_blk rfl 27 _ rfl hF1 rfl Try.underlying27 rfl (by rw [frc_size]; exact size27) ?_)
  refine (hwith _ hS1).mono ?_
  rintro r w2 ⟨rfl, hb2⟩
  have hw2 := hw1.trans (hb2.mono hw1.size)
  clear hb2 hF1 hw1 hS1 hwith
  go_wp2_with fail
  refine (hB _).mono ?_
  rintro r w3 ⟨rfl, hb3⟩
  have hw3 := hw2.trans (hb3.mono hw2.size)
  clear hb3 hw2 hB
  go_wp2_with fail
  refine (fixed_any _).mono ?_
  rintro r w4 ⟨rfl, hb4⟩
  have hw5 := hw3.trans (hb4.mono hw3.size)
  clear hb4 hw3 hS
  go_wp2_with fail
  go_loopw [11] (fun i w' => ∃ m : Nat, m ≤ 168 ∧ i = .int .i64 m ∧ Below w.heap.size w w') (fun i _ => 168 - (intOf i).toNat)
  case atStart => exact ⟨0, by omega, rfl, hw5⟩
  case round =>
    obtain ⟨m, hm, rfl, hb⟩ := hrel
    clear hw5
    by_cases hlt : m < 168
    · have hma : m < a.size := by rw [ha'.out]; exact hlt
      have hmb : m < b.size := by rw [hb'.out]; exact hlt
      have hone := hsame'.out m hma hmb
      by_cases heq : a[m] = b[m]
      · have k1 : ((a[m].toNat : Int) != (b[m].toNat : Int)) = false := by rw [heq]; simp
        clear hone heq hm
        go_wp2_with fail
        go_quiet (fail)
        have hb2 := hb.trans (below_draws _ _ nq)
        generalize wr.drewN nq = w6 at hb2 ⊢
        go_wp2_with fail
        refine ⟨⟨m + 1, by omega, by go_num, hb2⟩, by simp [intOf]; omega⟩
      · have k1 : ((a[m].toNat : Int) != (b[m].toNat : Int)) = true := by
          rw [bne_iff_ne]
          intro h
          exact heq (UInt8.toNat_inj.1 (Int.ofNat.inj h))
        have hn : ((m / 56 : Nat) : Int) = n := Classical.byContradiction fun h => heq (hone h)
        have k2 : (IntKind.i64.wrap ((m : Int).tdiv 56) != n) = false := by
          have e : (m : Int).tdiv 56 = ((m / 56 : Nat) : Int) := by rw [Int.tdiv_eq_ediv_of_nonneg (by omega)]; rfl
          rw [e, hn, IntKind.wrap_i64]
          rw [bne_eq_false_iff_eq]
          omega
        clear hone heq hm
        go_wp2_with fail
        go_quiet (fail)
        have hb2 := hb.trans (below_draws _ _ nq)
        generalize wr.drewN nq = w6 at hb2 ⊢
        go_wp2_with fail
        refine ⟨⟨m + 1, by omega, by go_num, hb2⟩, by simp [intOf]; omega⟩
    · obtain rfl : m = 168 := by omega
      have d1 : ¬ (168 : Int) < (a.size : Int) := by rw [ha'.out]; decide
      go_wp2_with fail
      go_ret
      exact ⟨rfl, hb⟩

theorem walk (F : Nat → En) (n : Int) (_hn : (Lit.int .i64 n).wf = true) (la : Option Addr) (L : List En) (lc : Nat) (_lm : L.length ≤ maxLen) (w : World) (hS : Sl la L w) : Calls Try.prog 6 #[.agg (frc F), .int .i64 n, .slice la L.length lc] w fun e w' => e = .returned (.bool true) ∧ Below w.heap.size w w' := by
  have h1 := frEncode F
  have h2 := frEncode (withL F n L)
  cases hm : Fr.may F
  · rw [hm] at h1
    obtain ⟨b, g, hB⟩ : ∃ (b : ByteArray) (g : Int), ∀ w, Calls Try.prog 8 #[.agg (frc (withL F n L))] w fun r w' => r = .returned (.tuple #[.string b, .int .i64 g]) ∧ Below w.heap.size w w' := by
      cases hm2 : Fr.may (withL F n L)
      · rw [hm2] at h2; exact ⟨_, _, h2⟩
      · rw [hm2] at h2; exact ⟨_, _, h2⟩
    exact apart_no F n la L lc b g h1 hB w hS
  · rw [hm] at h1
    cases hm2 : Fr.may (withL F n L)
    · rw [hm2] at h2
      exact apart_other F n la L lc _ h1 h2 w hS
    · rw [hm2] at h2
      exact apart_both F n la L lc _ _ (Fr.bytes_size _) (Fr.bytes_size _) (fun i i1 i2 hi => apart_get F n L i i1 i2 hi) h1 h2 w hS

set_option maxRecDepth 100000 in
theorem lifted (os : Os) (started : os.Started) (H : Type) (enc : TypeId × Value → H) :
    ReturnsInHanded {} Try.checked os 6 .any (Rows.frameApartSpec.pre6 enc Try.prog Try.f6 Rows.frameApartRow.domain false) (Rows.frameApartSpec.post enc Try.prog Try.f6 false true false false) := by
  refine returnsInHanded_of_change_sized (C := Try.checked) own started (by kernel_rfl) Try.func6
    (ChangeSpec.witness6 (enc := enc) (C := Try.checked) false ⟨#[], #[.agg #[.int .i64 0, .int .i64 0, .int .i64 0, .int .u64 0, .int .u64 0, .string ByteArray.empty, .int .i64 0, .int .i64 0, .int .i64 0, .int .u64 0, .int .u64 0, .string ByteArray.empty, .int .i64 0, .int .i64 0, .int .i64 0, .int .u64 0, .int .u64 0, .string ByteArray.empty, .int .i64 0, .int .i64 0, .int .i64 0, .int .u64 0, .int .u64 0, .string ByteArray.empty, .int .i64 0, .int .i64 0, .int .i64 0, .int .u64 0, .int .u64 0, .string ByteArray.empty, .int .i64 0, .int .i64 0, .int .i64 0, .int .u64 0, .int .u64 0, .string ByteArray.empty], .int .i64 0, .slice none 0 0], []⟩ 8 (by kernel_rfl) (by kernel_rfl) (by kernel_rfl) (by kernel_rfl)) ?_
  intro W base args ds gs before hval0 hW hcnd hsz0 _
  have hval : ∀ (j : Nat) t v, Try.f6.params[j]? = some t → args[j]? = some v → Value.okWide Try.prog W .any base t v := hval0
  have hsz : (DataW.weightsEach Try.prog (Try.f6.params.toList ++ Rows.frameApartSpec.plain.varTypes Try.prog) (ds ++ gs)).all (· ≤ reachBytes) = true := hsz0
  have hW' := hW
  obtain ⟨p, q, hA0, hV, rfl, hfz, hnd⟩ := hW
  have hA : DataW.TrodAll enc Try.prog W 0 (fun _ => true) true Try.f6.params.toList args.toList ds p := hA0
  rw [Try.params6] at hA hval hsz

  obtain ⟨v0, vs0, d0, ds0, p0, q0, hargs, rfl, rfl, h0, r0⟩ := trodAll_cons hA
  obtain ⟨v1, vs1, d1, ds1, p1, q1, rfl, rfl, rfl, h1, r1⟩ := trodAll_cons r0
  obtain ⟨v2, vs2, d2, ds2, p2, q2, rfl, rfl, rfl, h2, r2⟩ := trodAll_cons r1
  obtain ⟨rfl, rfl, rfl⟩ := trodAll_nil r2
  obtain rfl : args = #[v0, v1, v2] := by cases args; simp_all
  obtain ⟨rfl, rfl⟩ := trodVars_none hV
  obtain ⟨F0, rfl⟩ := open_frame (by obtain ⟨cs, h1, _⟩ := (by simpa only [Value.okWide, Try.underlying27] using hval 0 27 v0 rfl rfl : ∃ cs, v0 = .agg cs ∧ _); exact ⟨cs, h1⟩) h0
  obtain ⟨a1, rfl, rfl, rfl, w1⟩ := open_int Try.underlying3 (hval 1 3 v1 rfl rfl) h1
  obtain ⟨la2, L2, lc2, rfl, lm2, hS2⟩ := open_list (okWide_slice Try.underlying36 (hval 2 36 v2 rfl rfl)) h2
  have hA2 := hA0
  clear hA0 hval0 hsz0
  simp only [List.append_nil] at hW'
  refine (walk F0 a1 w1 la2 L2 lc2 lm2 W hS2).mono fun e W' ⟨he, bel⟩ => ?_
  subst he
  exact ⟨_, rfl, _, _, _, [], _, [], hW', trodAll_mk1 (shut_bool Try.underlying4 _), (stays_all laidOut bel (by kernel_rfl) hA2), rfl, bel.frame _, fun h => by cases h⟩

theorem over : Rows.frameApartRow.holds Try.pinned (OpenSpec.ofChange Rows.frameApartSpec) :=
  OpenClaim.holds_of_wide 6 Try.f6 rfl rfl rfl rfl rfl rfl rfl ⟨rfl, rfl, rfl, rfl, rfl⟩ rfl rfl rfl rfl rfl (by kernel_rfl) Try.func6 (by kernel_rfl)
    (of_decide_eq_true (by kernel_rfl)) (by unfold Func.isWrapper; first | (rw [if_pos (by decide +kernel)]; kernel_rfl) | (rw [if_neg (by decide +kernel)]; exact ⟨rfl, rfl⟩))
    (fun os started H enc _ => lifted os started H enc)

end Go.Proofs.Ytdpghocgljnobaa.frameApart
namespace Go.Proofs.Ytdpghocgljnobaa

theorem frameApart_holds : Rows.FrameApartSaid := frameApart.over
#print axioms frameApart_holds

end Go.Proofs.Ytdpghocgljnobaa
