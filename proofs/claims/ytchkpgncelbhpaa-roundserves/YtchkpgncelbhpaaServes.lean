/-
  What may be delivered, by any service, is as the document says; what may as safe may as agreed, what as agreed as causal, what as causal as fifo; no other service delivers: the law RoundServes returns true for every input.
  No condition beyond the form's own.
-/
import Derived.Test.YtchkpgncelbhpaaRows
import Derived.Test.YtchkpgncelbhpaaRdS
import Derived.Test.YtchkpgncelbhpaaRdN
import Derived.Test.YtchkpgncelbhpaaRdF
import Derived.Test.YtchkpgncelbhpaaBo
import Derived.WalkKit
import Derived.ProofKit
import Derived.OpenShut
import Derived.ShutString
import Derived.SizedLaws
import Derived.ChangeOld
import Derived.Below
namespace Go.Proofs.Ytchkpgncelbhpaa.roundServes
open Go.Sort Go.ChangeShapes Go.WideShapes Go.ChangeAt Go.RowKit
open Go.ChangeMaps (open_string shut_string)
set_option linter.unusedVariables false
set_option maxRecDepth 10000

theorem own : ownKnob Try.prog.godebug = none := by kernel_rfl
theorem length_bytes (s : ByteArray) : s.data.toList.length = s.size := by rw [Array.length_toList]; rfl

def svs (c m : Nat → Nat) (p : Pl) (j : Nat) : List Bool := (List.range j).map fun (i : Nat) => svcB c m p (i : Int)
theorem svs_next (c m : Nat → Nat) (p : Pl) (j : Nat) : svs c m p (j + 1) = svs c m p j ++ [svcB c m p (j : Int)] := by simp [svs, List.range_succ]
theorem svs_length (c m : Nat → Nat) (p : Pl) (j : Nat) : (svs c m p j).length = j := by simp [svs]

set_option maxHeartbeats 8000000 in
theorem walk (c : Nat → Nat) (kc : ∀ i, c i < 4294967296) (m : Nat → Nat) (p : Pl) (kp : p.r < 4294967296) (w : World) : Calls Try.prog 4 #[.agg (mbc c), .agg (mbc m), .agg p.arr] w fun e w' => e = .returned (.bool true) ∧ Below w.heap.size w w' := by
  have HR : Hid (p.r < 4294967296) := kp
  have HC : Hid (∀ i, c i < 4294967296) := kc
  clear kc kp
  obtain ⟨iI, zI, hI, hz0, hsz, hby, hzs⟩ := infoBool
  obtain ⟨a0, a1, a2, hB⟩ := three_blk (T0 := 24) (T1 := 25) (T2 := 27) (C0 := mbc c) (C1 := mbc m) (C2 := p.arr) (w := w) rfl
  go_enter Try.func4, Try.ntmps4
  go_upto_region 1 with fail
  generalize ((w.alloc (Obj.cells (mbc c) 24)).alloc (Obj.cells (mbc m) 25)).alloc (Obj.cells p.arr 27) = W at a0 a1 a2 hB ⊢
  have hWs : w.heap.size + 1 + 1 < W.heap.size := a2.lt
  have o1 := Ow.empty (f := bvl) (k := 1) (blk_new W #[] 4)
  replace a0 := a0.alloc (.cells #[] 4)
  replace a1 := a1.alloc (.cells #[] 4)
  replace a2 := a2.alloc (.cells #[] 4)
  replace hB : Below w.heap.size w (W.alloc (.cells #[] 4)) := hB.alloc hB.size _
  have hs2 : W.heap.size ≤ (W.alloc (.cells #[] 4)).heap.size := by simp
  go_wp2_with fail
  go_loopw [7, 8] (fun lv iv wr => ∃ (j cap : Nat) (ad : Option Addr), j ≤ 4 ∧ iv = .int .i64 j ∧ lv = .slice ad j cap ∧ Lg bvl 1 4 W.heap.size ad cap (svs c m p j) wr ∧ Below w.heap.size w wr ∧ W.heap.size ≤ wr.heap.size ∧ Blk w.heap.size (mbc c) 24 wr ∧ Blk (w.heap.size + 1) (mbc m) 25 wr ∧ Blk (w.heap.size + 1 + 1) p.arr 27 wr) (fun _ iv _ => 4 - (intOf iv).toNat)
  case atStart => exact ⟨0, 0, _, by omega, rfl, rfl, Lg.of o1 (Nat.le_refl _), hB, hs2, a0, a1, a2⟩
  case round =>
    clear a0 a1 a2 hB hs2 o1
    obtain ⟨j, cap, ad, hj, rfl, rfl, hg, hB, hs, a0, a1, a2⟩ := hrel
    by_cases hj4 : j < 4
    · have j0 : (j : Int) < 4 := by omega
      have j1 : (0 : Int) ≤ (j : Int) := by omega
      have pS := svc_ok c m p (j : Int) HR.out
      have pR := rsvc_ok c m HC.out p (j : Int) HR.out
      obtain ⟨v, hv⟩ : ∃ v, svcB c m p (j : Int) = v := ⟨_, rfl⟩
      have hst : svs c m p (j + 1) = svs c m p j ++ [v] := by rw [svs_next, hv]
      rw [hv] at pS pR
      clear hv
      go_wp2_with (first | refine load_blk rfl 24 _ rfl a0 rfl Try.underlying24 rfl sizeCt ?_ | refine load_blk rfl 25 _ rfl a1 rfl Try.underlying25 rfl sizeMb ?_ | refine load_blk rfl 27 _ rfl a2 rfl Try.underlying27 rfl p.size ?_)
      refine (pS _).mono ?_
      rintro r w1 ⟨rfl, hb⟩
      replace a0 := a0.below hb
      replace a1 := a1.below hb
      replace a2 := a2.below hb
      replace hg := hg.below hb
      have hs1 := Nat.le_trans hs hb.size
      replace hB := hB.trans (hb.mono hB.size)
      clear hb pS
      go_wp2_with (first | refine load_blk rfl 24 _ rfl a0 rfl Try.underlying24 rfl sizeCt ?_ | refine load_blk rfl 25 _ rfl a1 rfl Try.underlying25 rfl sizeMb ?_ | refine load_blk rfl 27 _ rfl a2 rfl Try.underlying27 rfl p.size ?_)
      refine (pR _).mono ?_
      rintro r w2 ⟨rfl, hb⟩
      replace a0 := a0.below hb
      replace a1 := a1.below hb
      replace a2 := a2.below hb
      replace hg := hg.below hb
      have hs2 := Nat.le_trans hs1 hb.size
      replace hB := hB.trans (hb.mono hB.size)
      clear hb pR
      clear hs1
      have hg2 := hg.below (below_box w2 (.cells (bvl v).toArray 4))
      have hx := (li_box (f := bvl) w2 v 4 0 (Nat.zero_le _)).src (P := Try.prog) bvl_length bvl_one Try.underlying37 1
      have hs3 : W.heap.size ≤ (w2.alloc (.cells (bvl v).toArray 4)).heap.size := by simp; omega
      have hb2 : Below w.heap.size w (w2.alloc (.cells (bvl v).toArray 4)) := hB.alloc hB.size _
      have b0 := a0.alloc (.cells (bvl v).toArray 4)
      have b1 := a1.alloc (.cells (bvl v).toArray 4)
      have b2 := a2.alloc (.cells (bvl v).toArray 4)
      have hlen := svs_length c m p j
      clear a0 a1 a2 hg hB hs2
      go_wp2_with (first | refine box_bool rfl _ rfl v rfl ?_ | (refine append_lg bvl_length rfl _ _ rfl Try.underlying37 hI hz0 hsz hby hzs hg2 hs3 hlen rfl (M := [v]) (by simp) hx rfl (by simp; omega) (by simp [maxLen]; omega) ?_; intro ad' cap' w5 hg5 hb5; rw [← hst] at hg5; have hb6 : Below w.heap.size w w5 := hb2.trans (hb5.mono (by omega)); have hs6 : W.heap.size ≤ w5.heap.size := Nat.le_trans hs3 hb5.size; have d0 : Blk w.heap.size (mbc c) 24 w5 := (hb5.block _ (by omega)).trans b0; have d1 : Blk (w.heap.size + 1) (mbc m) 25 w5 := (hb5.block _ (by omega)).trans b1; have d2 : Blk (w.heap.size + 1 + 1) p.arr 27 w5 := (hb5.block _ (by omega)).trans b2))
      exact ⟨⟨j + 1, cap', ad', by omega, by go_num, rfl, hg5, hb6, hs6, d0, d1, d2⟩, by simp [intOf]; omega⟩
    · obtain rfl : j = 4 := by omega
      clear hI
      rw [show ((4 : Nat) : Int) = 4 from rfl]
      have hli := hg.li
      rw [show svs c m p 4 = [svcB c m p 0, svcB c m p 1, svcB c m p 2, svcB c m p 3] from rfl] at hli
      have k3 := svc32 c m p
      have k2 := svc21 c m p
      have k1 := svc10 c m p
      have pU := svc_ok c m p (-1) HR.out
      have pO := svc_ok c m p 4 HR.out
      rw [svc_under] at pU
      rw [svc_over] at pO
      generalize svcB c m p 0 = v0 at *
      generalize svcB c m p 1 = v1 at *
      generalize svcB c m p 2 = v2 at *
      generalize svcB c m p 3 = v3 at *
      obtain ⟨b, o, rfl, hbW, hbl, hr⟩ := hli.at bvl_length 0 v0 rfl
      have hat : ∀ (i : Nat) (v : Bool), [v0, v1, v2, v3][i]? = some v → wr.cell? ⟨b, o + i, none⟩ = some (.bool v) := fun i v hv => by
        obtain ⟨b', o', e', _, _, hr'⟩ := hli.at bvl_length i v hv
        injection e' with e'
        injection e' with e1 e2 e3
        subst e1 e2
        have := hr' 0 _ rfl
        simpa using this
      have x0 := hat 0 v0 rfl
      have x1 := hat 1 v1 rfl
      have x2 := hat 2 v2 rfl
      have x3 := hat 3 v3 rfl
      clear hat hli hr hg HR HC
      go_wp2_with fail
      refine (fixed_ok _).mono ?_
      rintro r w6 ⟨rfl, hb⟩
      have y0 : w6.cell? ⟨b, o, none⟩ = some (.bool v0) := (World.cell?_of_block (a := ⟨b, o, none⟩) (hb.block b hbl)).trans x0
      have y1 : w6.cell? ⟨b, o + 1, none⟩ = some (.bool v1) := (World.cell?_of_block (a := ⟨b, o + 1, none⟩) (hb.block b hbl)).trans x1
      have y2 : w6.cell? ⟨b, o + 2, none⟩ = some (.bool v2) := (World.cell?_of_block (a := ⟨b, o + 2, none⟩) (hb.block b hbl)).trans x2
      have y3 : w6.cell? ⟨b, o + 3, none⟩ = some (.bool v3) := (World.cell?_of_block (a := ⟨b, o + 3, none⟩) (hb.block b hbl)).trans x3
      replace a0 := a0.below hb
      replace a1 := a1.below hb
      replace a2 := a2.below hb
      replace hB := hB.trans (hb.mono hB.size)
      clear hb x0 x1 x2 x3
      cases v3 <;> cases v2 <;> cases v1 <;> cases v0 <;> (try (exact absurd (k3 rfl) (by decide))) <;> (try (exact absurd (k2 rfl) (by decide))) <;> (try (exact absurd (k1 rfl) (by decide)))
      all_goals
        clear k1 k2 k3
        go_wp2_with (first | refine load_want rfl 24 _ rfl a0 rfl Try.underlying24 rfl sizeCt ?_ | refine load_want rfl 25 _ rfl a1 rfl Try.underlying25 rfl sizeMb ?_ | refine load_want rfl 27 _ rfl a2 rfl Try.underlying27 rfl p.size ?_)
        refine (pU _).mono ?_
        rintro r w7 ⟨rfl, hb⟩
        replace a0 := a0.below hb
        replace a1 := a1.below hb
        replace a2 := a2.below hb
        replace hB := hB.trans (hb.mono hB.size)
        clear hb pU
        go_wp2_with (first | refine load_want rfl 24 _ rfl a0 rfl Try.underlying24 rfl sizeCt ?_ | refine load_want rfl 25 _ rfl a1 rfl Try.underlying25 rfl sizeMb ?_ | refine load_want rfl 27 _ rfl a2 rfl Try.underlying27 rfl p.size ?_)
        refine (pO _).mono ?_
        rintro r w8 ⟨rfl, hb⟩
        replace a0 := a0.below hb
        replace a1 := a1.below hb
        replace a2 := a2.below hb
        replace hB := hB.trans (hb.mono hB.size)
        clear hb pO
        clear y0 y1 y2 y3 a0 a1 a2
        go_wp2_with fail
        go_ret
        exact ⟨rfl, hB⟩

set_option maxRecDepth 100000 in
theorem lifted (os : Os) (started : os.Started) (H : Type) (enc : TypeId × Value → H) :
    ReturnsInHanded {} Try.checked os 4 .any (Rows.roundServesSpec.pre6 enc Try.prog Try.f4 Rows.roundServesRow.domain false) (Rows.roundServesSpec.post enc Try.prog Try.f4 false true false false) := by
  refine returnsInHanded_of_change_sized (C := Try.checked) own started (by kernel_rfl) Try.func4
    (ChangeSpec.witness6 (enc := enc) (C := Try.checked) false ⟨#[], #[.agg (mbc noMb), .agg (mbc noMb), .agg Pl.zero.arr], []⟩ 8 (by kernel_rfl) (by kernel_rfl) (by kernel_rfl) (by kernel_rfl)) ?_
  intro W base args ds gs before hval0 hW hcnd hsz0 _
  have hval : ∀ (j : Nat) t v, Try.f4.params[j]? = some t → args[j]? = some v → Value.okWide Try.prog W .any base t v := hval0
  have hsz : (DataW.weightsEach Try.prog (Try.f4.params.toList ++ Rows.roundServesSpec.plain.varTypes Try.prog) (ds ++ gs)).all (· ≤ reachBytes) = true := hsz0
  have hW' := hW
  obtain ⟨p, q, hA0, hV, rfl, hfz, hnd⟩ := hW
  have hA : DataW.TrodAll enc Try.prog W 0 (fun _ => true) true Try.f4.params.toList args.toList ds p := hA0
  rw [Try.params4] at hA hval hsz

  obtain ⟨v0, vs0, d0, ds0, p0, q0, hargs, rfl, rfl, h0, r0⟩ := trodAll_cons hA
  obtain ⟨v1, vs1, d1, ds1, p1, q1, rfl, rfl, rfl, h1, r1⟩ := trodAll_cons r0
  obtain ⟨v2, vs2, d2, ds2, p2, q2, rfl, rfl, rfl, h2, r2⟩ := trodAll_cons r1
  obtain ⟨rfl, rfl, rfl⟩ := trodAll_nil r2
  obtain rfl : args = #[v0, v1, v2] := by cases args; simp_all
  obtain ⟨rfl, rfl⟩ := trodVars_none hV
  obtain ⟨c0, rfl, kc0⟩ := open_ct (by obtain ⟨cs, h1, _⟩ := (by simpa only [Value.okWide, Try.underlying24] using hval 0 24 v0 rfl rfl : ∃ cs, v0 = .agg cs ∧ _); exact ⟨cs, h1⟩) h0
  obtain ⟨m1, rfl⟩ := open_mb (by obtain ⟨cs, h1, _⟩ := (by simpa only [Value.okWide, Try.underlying25] using hval 1 25 v1 rfl rfl : ∃ cs, v1 = .agg cs ∧ _); exact ⟨cs, h1⟩) h1
  obtain ⟨p2_, rfl, kp2⟩ := open_pl (by obtain ⟨cs, h1, _⟩ := okWide_struct Try.underlying27 (hval 2 27 v2 rfl rfl); exact ⟨cs, h1⟩) h2
  have hA2 := hA0
  clear hA0 hval0 hsz0
  simp only [List.append_nil] at hW'
  refine (walk c0 kc0 m1 p2_ kp2 W).mono fun e W' ⟨he, bel⟩ => ?_
  subst he
  exact ⟨_, rfl, _, _, _, [], _, [], hW', trodAll_mk1 (shut_bool Try.underlying4 _), (stays_all laidOut bel (by kernel_rfl) hA2), rfl, bel.frame _, fun h => by cases h⟩

theorem over : Rows.roundServesRow.holds Try.pinned (OpenSpec.ofChange Rows.roundServesSpec) :=
  OpenClaim.holds_of_wide 4 Try.f4 rfl rfl rfl rfl rfl rfl rfl ⟨rfl, rfl, rfl, rfl, rfl⟩ rfl rfl rfl rfl rfl (by kernel_rfl) Try.func4 (by kernel_rfl)
    (of_decide_eq_true (by kernel_rfl)) (by unfold Func.isWrapper; first | (rw [if_pos (by decide +kernel)]; kernel_rfl) | (rw [if_neg (by decide +kernel)]; exact ⟨rfl, rfl⟩))
    (fun os started H enc _ => lifted os started H enc)

end Go.Proofs.Ytchkpgncelbhpaa.roundServes
namespace Go.Proofs.Ytchkpgncelbhpaa

theorem roundServes_holds : Rows.RoundServesSaid := roundServes.over
#print axioms roundServes_holds

end Go.Proofs.Ytchkpgncelbhpaa
