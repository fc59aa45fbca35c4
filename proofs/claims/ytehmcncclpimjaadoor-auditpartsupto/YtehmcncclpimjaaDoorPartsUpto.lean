/-
  The text of two lists of records is the one's text and then the other one's, and how many failed is both together: the law AuditParts returns true for every input of small bulk; its card.
  The input's bulk is at most 1048576.
-/
import Derived.Test.YtehmcncclpimjaaDoorRows
import Derived.Test.YtehmcncclpimjaaDoorCards
import Derived.Test.YtehmcncclpimjaaDoorTie
import Derived.Test.YtehmcncclpimjaaDoorAuG
import Derived.WalkKit
import Derived.ProofKit
import Derived.OpenShut
import Derived.ShutString
import Derived.ChangeOld
import Derived.Below
import Derived.Lay
import Derived.Deep.DeepHandedRow
import Derived.Deep.DeepWitnessRowRef
import Derived.SevenTiedAt
namespace Go.Proofs.YtehmcncclpimjaaDoor.auditPartsUpto
open Go.Sort Go.ChangeShapes Go.WideShapes Go.ChangeAt Go.RowKit
open Go.ChangeMaps (open_string shut_string)
set_option linter.unusedVariables false
set_option linter.unusedSimpArgs false
set_option maxRecDepth 10000

theorem own : ownKnob Tryd.prog.godebug = none := by kernel_rfl

set_option maxHeartbeats 16000000 in
theorem walk (la : Option Addr) (L : List Rc) (lc : Nat) (lz : L.length * 40 ≤ 140737488351232) (lk : L.length ≤ lc) (lm : lc ≤ maxLen) (ln : L.length ≤ 1048576) (ls : ∀ x ∈ L, x.fit ∧ x.c.size ≤ 1048576) (lb : Option Addr) (M : List Rc) (mc : Nat) (mz : M.length * 40 ≤ 140737488351232) (mk : M.length ≤ mc) (mm : mc ≤ maxLen) (mn : M.length ≤ 1048576) (ms : ∀ x ∈ M, x.fit ∧ x.c.size ≤ 1048576) (w : World) (hT : Tb w) (hL : Li Rc.vals 0 la L w) (hM : Li Rc.vals 0 lb M w) : Calls Tryd.prog 7 #[.slice la L.length lc, .slice lb M.length mc] w fun e w' => e = .returned (.bool true) ∧ Below w.heap.size w w' := by
  obtain ⟨iI, zI, hI, hz0, hsz, hby, hzs⟩ := infoRc
  have hB := Below.refl w.heap.size w
  have t1 := textL_len L ls
  have t2 := textL_len M ms
  have f1 := failN_le L
  have f2 := failN_le M
  have k1 : (textL L).length + (textL M).length ≤ 9223372036854775807 := by omega
  have p1 := text_ok L (fun x hx => (ls x hx).1) la lc (by omega) (by omega)
  have p2 := text_ok M (fun x hx => (ms x hx).1) lb mc (by omega) (by omega)
  have p3 := fun a c => text_ok (L ++ M) (fun x hx => by
    rcases List.mem_append.1 hx with hx | hx
    · exact (ls x hx).1
    · exact (ms x hx).1) a c (by rw [List.length_append]; omega) (by rw [textL_append, List.length_append]; omega)
  have p4 := failed_ok L la lc (by omega)
  have p5 := failed_ok M lb mc (by omega)
  have p6 := fun a c => failed_ok (L ++ M) a c (by rw [List.length_append]; omega)
  rw [textL_append] at p3
  rw [failN_append, Int.natCast_add] at p6
  rw [List.length_append] at p3 p6
  have hsum := sum_B (textL L) (textL M) k1
  generalize textL L = TL at p1 p3 hsum
  generalize textL M = TM at p2 p3 hsum
  have b0 := blk_new w #[] 27
  have hB0 : Below w.heap.size w (w.alloc (.cells #[] 27)) := below_box w _
  have hG0 : Lg Rc.vals 4 27 w.heap.size (some ⟨w.heap.size, 0, none⟩) 0 [] (w.alloc (.cells #[] 27)) := Lg.of (Ow.empty b0) (Nat.le_refl _)
  obtain ⟨n, hn⟩ : ∃ n, Hid (L.length = n) := ⟨_, rfl⟩
  obtain ⟨m, hm⟩ : ∃ m, Hid (M.length = m) := ⟨_, rfl⟩
  have hx0 := (hL.below hB0).src (P := Tryd.prog) Rc.vals_length Rc.vals_one Tryd.underlying22 lc
  rw [hn.out] at p1 p3 p4 p6 hx0 ln f1 ⊢
  rw [hm.out] at p2 p3 p5 p6 mn f2 ⊢
  generalize failN L = fL at p4 p6 f1
  generalize failN M = fM at p5 p6 f2
  have hfs : (fL : Int) + (fM : Int) ≤ 9223372036854775807 := by omega
  clear ls ms lz mz lk mk lm mm t1 t2 k1 b0
  go_enter Tryd.func7, Tryd.ntmps7
  go_upto_region 2 with (first | refine box_Rc0 rfl rfl ?_ | (refine append_any Rc.vals_length rfl _ _ rfl Tryd.underlying22 hI hz0 hsz hby hzs hG0 hB0.size (n := 0) rfl rfl (M := L) (m := n) hn.out (by rw [hn.out]; exact hx0) rfl (by omega) (by simp only [maxLen]; omega) ?_; intro a1 c1 W1 hG1 hK1 _; rw [List.nil_append] at hG1; have hB1 := hB0.trans (hK1.below (fun k hk => (hG0.in k hk).1) hB0.size); have hx1 := (hM.below hB1).src (P := Tryd.prog) Rc.vals_length Rc.vals_one Tryd.underlying22 mc; rw [hm.out] at hx1) | (refine append_any Rc.vals_length rfl _ _ rfl Tryd.underlying22 hI hz0 hsz hby hzs hG1 hB1.size (n := n) hn.out rfl (M := M) (m := m) hm.out (by rw [hm.out]; exact hx1) rfl (by omega) (by simp only [maxLen]; omega) ?_; intro a2 c2 W2 hG2 hK2 _))
  try simp only [Act.put, List.setIfInBounds_toArray, List.set_cons_zero, List.set_cons_succ]
  have hB2 := hB1.trans (hK2.below (fun k hk => (hG1.in k hk).1) hB1.size)
  have hS := hG2.li.mono (Nat.zero_le w.heap.size)
  replace hL := hL.below hB2
  replace hM := hM.below hB2
  replace hT := hT.next hB2
  replace hB := hB2
  clear hB2 hB1 hB0 hG1 hG2 hG0 hK1 hK2 hx0 hx1
  go_wp2_with fail
  refine (fixed_ok _ hT).mono ?_
  rintro r wq ⟨rfl, hb⟩
  replace hL := hL.below hb
  replace hM := hM.below hb
  replace hS := hS.below hb
  replace hT := hT.next hb
  replace hB := below_next hB hb
  clear hb
  go_wp2_with fail
  refine (p3 _ _ _ hS hT).mono ?_
  rintro r wq ⟨rfl, hb⟩
  replace hL := hL.below hb
  replace hM := hM.below hb
  replace hS := hS.below hb
  replace hT := hT.next hb
  replace hB := below_next hB hb
  clear hb
  clear p3
  go_wp2_with fail
  refine (p1 _ hL hT).mono ?_
  rintro r wq ⟨rfl, hb⟩
  replace hL := hL.below hb
  replace hM := hM.below hb
  replace hS := hS.below hb
  replace hT := hT.next hb
  replace hB := below_next hB hb
  clear hb
  clear p1
  go_wp2_with fail
  refine (p2 _ hM hT).mono ?_
  rintro r wq ⟨rfl, hb⟩
  replace hL := hL.below hb
  replace hM := hM.below hb
  replace hS := hS.below hb
  replace hT := hT.next hb
  replace hB := below_next hB hb
  clear hb
  clear p2
  go_wp2_with fail
  refine (p6 _ _ _ hS).mono ?_
  rintro r wq ⟨rfl, hb⟩
  replace hL := hL.below hb
  replace hM := hM.below hb
  replace hB := below_next hB hb
  clear hb
  clear p6
  go_wp2_with fail
  refine (p4 _ hL).mono ?_
  rintro r wq ⟨rfl, hb⟩
  replace hM := hM.below hb
  replace hB := below_next hB hb
  clear hb
  clear p4
  go_wp2_with fail
  refine (p5 _ hM).mono ?_
  rintro r wq ⟨rfl, hb⟩
  replace hB := below_next hB hb
  clear hb
  clear p5
  go_wp2_with fail
  go_ret
  exact ⟨rfl, hB⟩


theorem laid_met (os : Os) : laidMetH Tryd.prog Rows.auditPartsUptoRow.laid ((World.laidAll Tryd.prog os Rows.auditPartsUptoRow.laid).forCall (fun _ _ => 0) ⟨#[], #[.slice none 0 0, .slice none 0 0], []⟩).memory := by
  rw [MakeChecks.laidMetH_plain _ _ _ (by kernel_rfl)]
  exact laidMet_laidAll _ (by kernel_rfl) (by kernel_rfl)
def wdata (H : Type) : List (DataW H) := [.nil, .nil]
theorem reads (os : Os) {H : Type} (enc : TypeId × Value → H) : ∃ places, DataW.whole enc Tryd.prog ((World.laidAll Tryd.prog os Rows.auditPartsUptoRow.laid).forCall (fun _ _ => 0) ⟨#[], #[.slice none 0 0, .slice none 0 0], []⟩).memory Tryd.f7.params.toList (Rows.OpenSpec.upto Rows.auditPartsSpec).vars false (#[.slice none 0 0, .slice none 0 0] : Array Value).toList 8 = some (wdata H, [], places) :=
  ⟨[], by kernel_rfl⟩

set_option maxRecDepth 100000 in
theorem lifted (os : Os) (started : os.Started) (H : Type) (enc : TypeId × Value → H) (F : Stop.Interp) :
    ReturnsInHanded {} Tryd.checked os 7 .any ((Rows.OpenSpec.upto Rows.auditPartsSpec).preRow enc Tryd.prog Tryd.f7 Rows.auditPartsUptoRow.domain false Rows.auditPartsUptoRow.laid) (((Rows.OpenSpec.upto Rows.auditPartsSpec).at F).post enc Tryd.prog Tryd.f7 false true false false) := by
  obtain ⟨places, hx⟩ := reads os enc
  refine returnsInHanded_of_row (C := Tryd.checked) (s := Rows.OpenSpec.upto Rows.auditPartsSpec) own started (by kernel_rfl) Tryd.func7
    (witness_row_atRef (enc := enc) (C := Tryd.checked) false (World.laidAll Tryd.prog os Rows.auditPartsUptoRow.laid) #[.slice none 0 0, .slice none 0 0] (World.laidAll_os _ _ _) (by kernel_rfl) (by kernel_rfl) (by kernel_rfl)
      (OpenSpec.preRow_of_cond 8 hx (by kernel_rfl) (fun k hk => by cases hk; kernel_rfl) (by kernel_rfl) (laid_met os))) ?_
  intro W base args ds gs before hval0 hW hcnd hcond hsz0 hL0 hsh _
  have hL := hL0
  rw [MakeChecks.laidMetH_plain _ _ _ (by kernel_rfl)] at hL
  have hval : ∀ (j : Nat) t v, Tryd.f7.params[j]? = some t → args[j]? = some v → Value.okWide Tryd.prog W .any base t v := hval0
  have hsz : (DataW.weightsEach Tryd.prog (Tryd.f7.params.toList ++ Rows.auditPartsSpec.plain.varTypes Tryd.prog) (ds ++ gs)).all (· ≤ reachBytes) = true := hsz0
  have hbk : ∀ d ∈ ds ++ gs, Rows.uptoBulk d ≤ 1048576 := fun d hd => bulk_small (hcond _ rfl) hd
  have hW' := hW
  obtain ⟨p, q, hA0, hV, rfl, hfz, hnd⟩ := hW
  have hA : DataW.TrodAll enc Tryd.prog W 0 (fun _ => true) true Tryd.f7.params.toList args.toList ds p := hA0
  rw [Tryd.params7] at hA hval hsz
  obtain ⟨v0, vs0, d0, ds0, p0, q0, hargs, rfl, rfl, h0, r0⟩ := trodAll_cons hA
  obtain ⟨v1, vs1, d1, ds1, p1, q1, rfl, rfl, rfl, h1, r1⟩ := trodAll_cons r0
  obtain ⟨rfl, rfl, rfl⟩ := trodAll_nil r1
  obtain rfl : args = #[v0, v1] := by cases args; simp_all
  obtain ⟨rfl, rfl⟩ := trodVars_none hV
  obtain ⟨la0, L0, lc0, rfl, lz0, hc0, hm0, lb0, ls0, hS0⟩ := open_RcsB (okWide_slice Tryd.underlying22 (hval 0 22 v0 rfl rfl)) (fun n hn => of_decide_eq_true (List.all_eq_true.1 hsz _ (DataW.weights_mem_each (j := 0) rfl rfl n hn))) (hbk _ (by simp)) h0
  obtain ⟨la1, L1, lc1, rfl, lz1, hc1, hm1, lb1, ls1, hS1⟩ := open_RcsB (okWide_slice Tryd.underlying22 (hval 1 22 v1 rfl rfl)) (fun n hn => of_decide_eq_true (List.all_eq_true.1 hsz _ (DataW.weights_mem_each (j := 1) rfl rfl n hn))) (hbk _ (by simp)) h1
  have hT : Tb W := tb_of hL
  have hA2 := hA0
  clear hA0 hval0 hsz0
  simp only [List.append_nil] at hW'
  refine (walk la0 L0 lc0 lz0 hc0 hm0 lb0 ls0 la1 L1 lc1 lz1 hc1 hm1 lb1 ls1 W hT hS0 hS1).mono fun e W' ⟨he, bel⟩ => ?_
  subst he
  exact ⟨_, rfl, _, _, _, [], _, [], hW', trodAll_mk1 (shut_bool Tryd.underlying4 _), (stays_all laidOut bel (by kernel_rfl) hA2), rfl, bel.frame _, fun h => by cases h⟩

theorem said : Rows.AuditPartsUptoSaid :=
  OpenClaim.holds_of_cond 7 Tryd.f7 rfl rfl rfl rfl rfl rfl rfl ⟨rfl, rfl, rfl, rfl, rfl⟩ rfl rfl rfl rfl rfl (by kernel_rfl) Tryd.func7 (by kernel_rfl)
    (of_decide_eq_true (by kernel_rfl)) (by unfold Func.isWrapper; first | (rw [if_pos (by decide +kernel)]; kernel_rfl) | (rw [if_neg (by decide +kernel)]; exact ⟨rfl, rfl⟩))
    (fun os started H enc _ F => by rw [OpenClaim.pre_eq_preRow]; exact lifted os started H enc F)

theorem plain (f : FuncId) (fn : Func) (hf : Tryd.pinned.checked.prog.funcNamed "congress/congresslaw20.AuditParts" = some f) (hfn : Tryd.pinned.checked.prog.funcs[f]? = some fn) :
    true = Tryd.pinned.checked.prog.looks [] ∧ ∀ (j : Nat) t, fn.params[j]? = some t → Tryd.pinned.checked.prog.wantsStandIn t = false := by
  obtain rfl : f = 7 := Option.some.inj ((show Tryd.prog.funcNamed "congress/congresslaw20.AuditParts" = some 7 by kernel_rfl).symm.trans hf) |>.symm
  obtain rfl : fn = Tryd.f7 := (Option.some.inj (Tryd.func7.symm.trans hfn)).symm
  refine ⟨by kernel_rfl, fun j t ht => ?_⟩
  rw [Tryd.params7] at ht
  have hm : t ∈ [22, 22] := by simpa using Array.mem_of_getElem? ht
  have hall : ([22, 22].all fun u => !Tryd.prog.wantsStandIn u) = true := by kernel_rfl
  have := List.all_eq_true.1 hall t hm
  show Tryd.prog.wantsStandIn t = false
  simpa using this

theorem card : Rows.AuditPartsUptoCardSaid :=
  Claim7.holds_tied_plain_at .later [] _ _ _ _ said (fun _ h => by cases h) (by kernel_rfl) (fun _ h => by cases h) auditPartsUpto_row_tie rfl ⟨rfl, rfl⟩ (by kernel_rfl) rfl plain (by kernel_rfl)

end Go.Proofs.YtehmcncclpimjaaDoor.auditPartsUpto
namespace Go.Proofs.YtehmcncclpimjaaDoor

theorem auditPartsUpto_holds : Rows.AuditPartsUptoCardSaid := auditPartsUpto.card
#print axioms auditPartsUpto_holds

end Go.Proofs.YtehmcncclpimjaaDoor
