/-
  Which letter is picked, and where all others stand then, does not hang on what stands in letters: the law LossyBlind returns true for every input.
  No condition beyond the form's own.
-/
import Derived.Test.YthkfolohhdafkaaRows
import Derived.Test.YthkfolohhdafkaaLeF
import Derived.Test.YthkfolohhdafkaaLeO
import Derived.Test.YthkfolohhdafkaaLeP
import Derived.WalkKit
import Derived.ProofKit
import Derived.OpenShut
import Derived.ShutString
import Derived.SizedLaws
import Derived.ChangeOld
import Derived.Below
namespace Go.Proofs.Ythkfolohhdafkaa.lossyBlind
open Go.Sort Go.ChangeShapes Go.WideShapes Go.ChangeAt Go.RowKit
open Go.ChangeMaps (open_string shut_string)
set_option linter.unusedVariables false
set_option maxRecDepth 10000

theorem own : ownKnob Try.prog.godebug = none := by kernel_rfl
theorem length_bytes (s : ByteArray) : s.data.toList.length = s.size := by rw [Array.length_toList]; rfl

set_option maxHeartbeats 4000000 in
theorem walk (la : Option Addr) (L : List Le) (lc : Nat) (lz : L.length * 40 ≤ 140737488351232) (lk : L.length ≤ lc) (lm : lc ≤ maxLen) (ls : ∀ x ∈ L, x.small) (xa : Option Addr) (X : List ByteArray) (xc : Nat) (xz : X.length * 16 ≤ 140737488351232) (xk : X.length ≤ xc) (xm : xc ≤ maxLen) (xs : ∀ x ∈ X, small x) (x : Pi) (kx : x.fit) (w : World) (hL : Li Le.vals 0 la L w) (hX : Li sv 0 xa X w) :
    Calls Try.prog 4 #[.slice la L.length lc, .slice xa X.length xc, .agg x.arr] w fun e w' => e = .returned (.bool true) ∧ Below w.heap.size w w' := by
  obtain ⟨iI, zI, hI, hz0, hsz, hby, hzs⟩ := infoLe
  obtain ⟨n, hn⟩ : ∃ n, Hid (L.length = n) := ⟨_, rfl⟩
  obtain ⟨m, hm⟩ : ∃ m, Hid (X.length = m) := ⟨_, rfl⟩
  rw [hn.out] at lz lk
  rw [hm.out] at xz xk
  rw [hn.out, hm.out]
  clear ls xs
  have vP := blk_new w x.arr 25
  have hB := below_box w (.cells x.arr 25)
  go_enter Try.func4, Try.ntmps4
  go_upto_region 1 with fail
  try simp only [Act.put]
  generalize w.alloc (Obj.cells x.arr 25) = W at vP hB ⊢
  have o0 := Lg.of (Ow.empty (f := Le.vals) (k := 4) (blk_new W #[] 27)) hB.size
  have hb := below_box W (.cells #[] 27)
  have hB0 := below_next hB hb
  have hzW := vP.lt
  go_upto_region 3 with (go_big_may; first
    | refine box_le0 rfl rfl ?_
    | (refine append_any Le.vals_length rfl _ _ rfl Try.underlying22 hI hz0 hsz hby hzs o0 hB0.size (n := 0) rfl rfl (M := L) hn.out ((hL.below hB0).src Le.vals_length Le.vals_one Try.underlying22 lc) (by rw [hn.out]; rfl) (by omega) (by simp only [maxLen]; omega) ?_; intro a3 c3 W3 o3 k3 n3; have hB3 : Below w.heap.size w W3 := hB0.trans (k3.below (fun k hk => (o0.in k hk).1) hB0.size); simp only [Nat.zero_add]))
  try simp only [Act.put]
  rw [List.nil_append] at o3
  have hz3 : Hid (w.heap.size ∉ blkOf a3) := fun hm => by
    rcases n3 _ hm with h | h
    · simp [blkOf] at h; omega
    · have := hb.size; omega
  have vP3 := (vP.below hb).kp k3 (by simp [blkOf]; omega)
  clear o0 k3 n3 hB0 hb hzW vP hB
  go_loopw [8] (fun iv wr => ∃ j : Nat, j ≤ n ∧ iv = .int .i64 j ∧ Lg Le.vals 4 27 w.heap.size a3 c3 (blnL L X j) wr ∧ Blk w.heap.size x.arr 25 wr ∧ Below w.heap.size w wr) (fun iv _ => n - (intOf iv).toNat)
  case atStart => exact ⟨0, by omega, rfl, by rw [blnL_zero]; exact o3, vP3, hB3⟩
  case round =>
    clear o3 vP3 hB3
    obtain ⟨j, hj, rfl, hM, vP, hB⟩ := hrel
    rename World => wr
    by_cases hjn : j < n
    · have j0 : (j : Int) < (n : Int) := by omega
      have j1 : (0 : Int) ≤ (j : Int) := by omega
      obtain ⟨y, hyL⟩ : ∃ y, L[j]? = some y := ⟨_, List.getElem?_eq_getElem (by rw [hn.out]; exact hjn)⟩
      have hy := blnL_at L X j y hyL
      obtain ⟨rfl, rfl, hnil⟩ | ⟨g, rfl, hBg, h0⟩ := hM
      · rw [hnil] at hy
        simp at hy
      have hzg : w.heap.size ≠ g := fun h => hz3.out (by simp [blkOf, h])
      obtain ⟨C, hC, hCs⟩ := h0.blk
      rw [blnL_len, hn.out] at hCs
      have hps : j * 4 + 4 ≤ C.size := by omega
      by_cases hjx : j < m
      · have hx1 : ∀ e : Le, ((blnL L X j).set j e)[j]? = some e := fun e => by rw [List.getElem?_set_self (by rw [blnL_len, hn.out]; exact hjn)]
        obtain ⟨t, ht⟩ : ∃ t, X[j]? = some t := ⟨_, List.getElem?_eq_getElem (by rw [hm.out]; exact hjx)⟩
        have ht' : Hid (X.getD j ⟨#[]⟩ = t) := by show _ = _; simp [List.getD, ht]
        obtain ⟨b5, o5, rfl, _, _, _⟩ := hX.at sv_length j t ht
        have i0 : (j : Int) < (m : Int) := by omega
        go_wp2_with (first
          | (refine store_one rfl 9 _ _ rfl (off := j * 4 + 2) (.string ⟨#[]⟩) hC (by go_simp) rfl rfl rfl sizeStr1 (by first | omega | (rw [Array.size_setIfInBounds]; omega)) ?_; intro W4 b4 k4; have h4 := h0.cell1 Le.vals_length (by decide) j _ hy ⟨y.fr, y.u, ⟨#[]⟩, y.b⟩ (r := 2) (v := .string ⟨#[]⟩) rfl (by decide) hC b4; have hB4 := below_at hB k4 hBg; have x4 : W4.cell? ⟨b5, o5 + j, none⟩ = some (.string t) := (by have := (hX.below hB4).rng sv_length j t ht 0 _ rfl; simpa using this))
          | (refine store_one rfl 9 _ _ rfl (off := j * 4 + 2) (.string t) b4 (by go_simp) rfl rfl rfl sizeStr1 (by first | omega | (rw [Array.size_setIfInBounds]; omega)) ?_; intro W5 b5 k5; have h5 := h4.cell1 Le.vals_length (by decide) j _ (hx1 _) ⟨y.fr, y.u, t, y.b⟩ (r := 2) (v := .string t) rfl (by decide) b4 b5))
        have hB5 := below_at (below_at hB k4 hBg) k5 hBg
        rw [List.set_set] at h5
        have e5 : Hid (blnL L X (j + 1) = (blnL L X j).set j ⟨y.fr, y.u, t, y.b⟩) := by show _ = _; rw [blnL_set L X j y hyL]; unfold blnE; rw [ht'.out]
        exact ⟨⟨j + 1, by omega, by go_num, by rw [e5.out]; exact Lg.of h5 hBg, (vP.kp1 k4 hzg).kp1 k5 hzg, hB5⟩, by simp [intOf]; omega⟩
      · have hx1 : ∀ e : Le, ((blnL L X j).set j e)[j]? = some e := fun e => by rw [List.getElem?_set_self (by rw [blnL_len, hn.out]; exact hjn)]
        have i0 : ¬ (j : Int) < (m : Int) := by omega
        have ht' : Hid (X.getD j ⟨#[]⟩ = ⟨#[]⟩) := by show _ = _; rw [List.getD, List.getElem?_eq_none (by rw [hm.out]; omega)]; rfl
        go_wp2_with (refine store_one rfl 9 _ _ rfl (off := j * 4 + 2) (.string ⟨#[]⟩) hC (by go_simp) rfl rfl rfl sizeStr1 (by first | omega | (rw [Array.size_setIfInBounds]; omega)) ?_; intro W4 b4 k4; have h4 := h0.cell1 Le.vals_length (by decide) j _ hy ⟨y.fr, y.u, ⟨#[]⟩, y.b⟩ (r := 2) (v := .string ⟨#[]⟩) rfl (by decide) hC b4)
        have hB4 := below_at hB k4 hBg
        have e4 : Hid (blnL L X (j + 1) = (blnL L X j).set j ⟨y.fr, y.u, ⟨#[]⟩, y.b⟩) := by show _ = _; rw [blnL_set L X j y hyL]; unfold blnE; rw [ht'.out]
        exact ⟨⟨j + 1, by omega, by go_num, by rw [e4.out]; exact Lg.of h4 hBg, vP.kp1 k4 hzg, hB4⟩, by simp [intOf]; omega⟩
    · obtain rfl : j = n := by omega
      have HK := blnL_keyed L X j
      generalize blnL L X j = M at hM HK
      have lM : M.length = j := by rw [← HK.len, hn.out]
      have pF1 := find_ok L la lc x.fr x.u x.ix ⟨kx.1, kx.2.1⟩ (by rw [hn.out]; exact lz)
      have pF2 := find_ok M a3 c3 x.fr x.u x.ix ⟨kx.1, kx.2.1⟩ (by rw [lM]; exact lz)
      have pK1 := ltake_ok L la lc x.fr x.u x.ix ⟨kx.1, kx.2.1⟩ (by rw [hn.out]; exact lz) (by rw [hn.out]; exact lk) (by simp only [maxLen] at lm; omega)
      have pK2 := ltake_ok M a3 c3 x.fr x.u x.ix ⟨kx.1, kx.2.1⟩ (by rw [lM]; exact lz) hM.cap hM.max
      unfold TookL at pK1 pK2
      have kA := HK.left x.fr x.u x.ix
      have kG := HK.got x.fr x.u x.ix
      rw [HK.pick, HK.is, lM] at pF2
      rw [HK.is, lM] at pK2
      rw [hn.out] at pF1 pK1
      generalize (pickL x.fr x.u x.ix L).getD 0 = p at pF1 pF2
      generalize isL x.fr x.u x.ix L = t at pF1 pF2 pK1 pK2
      have hA9 : (leftL x.fr x.u x.ix L).length ≤ j := by
        rw [← hn.out]
        unfold leftL
        cases pickL x.fr x.u x.ix L with
        | none => exact Nat.le_refl _
        | some p => show (List.take _ _ ++ List.drop _ _).length ≤ _; rw [List.length_append, List.length_take, List.length_drop]; omega
      generalize leftL x.fr x.u x.ix L = A at pK1 kA hA9
      generalize leftL x.fr x.u x.ix M = C at pK2 kA
      generalize gotL x.fr x.u x.ix L = y at pK1 kG
      generalize gotL x.fr x.u x.ix M = v at pK2 kG
      have kl := kA.len
      obtain ⟨na, hna⟩ : ∃ na, Hid (A.length = na) := ⟨_, rfl⟩
      have hnc : Hid (C.length = na) := by show _ = _; rw [← kl, hna.out]
      rw [hna.out] at pK1 hA9
      rw [hnc.out] at pK2
      clear kl lM
      have g0 : y.fr = v.fr ∧ y.u = v.u := by simpa [Le.key] using kG
      obtain ⟨g1, g2⟩ := g0
      clear kG HK
      have e0 : wr.cell? ⟨w.heap.size, 0, none⟩ = some (.int .i64 x.fr) := vP.cell 0 _ rfl
      have e1 : wr.cell? ⟨w.heap.size, 1, none⟩ = some (.int .i64 x.u) := vP.cell 1 _ rfl
      have e2 : wr.cell? ⟨w.heap.size, 2, none⟩ = some (.int .i64 x.ix) := vP.cell 2 _ rfl
      go_wp2_with fail
      refine (pF1 wr (hL.below hB)).mono ?_
      rintro r w1 ⟨rfl, hb⟩
      replace vP := vP.below hb
      replace hM := hM.below hb
      replace hB := below_next hB hb
      clear hb
      clear e0 e1 e2 pF1
      have e0 : w1.cell? ⟨w.heap.size, 0, none⟩ = some (.int .i64 x.fr) := vP.cell 0 _ rfl
      have e1 : w1.cell? ⟨w.heap.size, 1, none⟩ = some (.int .i64 x.u) := vP.cell 1 _ rfl
      have e2 : w1.cell? ⟨w.heap.size, 2, none⟩ = some (.int .i64 x.ix) := vP.cell 2 _ rfl
      go_wp2_with fail
      refine (pF2 w1 (hM.li.mono (Nat.zero_le _))).mono ?_
      rintro r w2 ⟨rfl, hb⟩
      replace vP := vP.below hb
      replace hM := hM.below hb
      replace hB := below_next hB hb
      clear hb
      clear e0 e1 e2 pF2
      have e0 : w2.cell? ⟨w.heap.size, 0, none⟩ = some (.int .i64 x.fr) := vP.cell 0 _ rfl
      have e1 : w2.cell? ⟨w.heap.size, 1, none⟩ = some (.int .i64 x.u) := vP.cell 1 _ rfl
      have e2 : w2.cell? ⟨w.heap.size, 2, none⟩ = some (.int .i64 x.ix) := vP.cell 2 _ rfl
      go_wp2_with fail
      refine (pK1 w2 (hL.below hB)).mono ?_
      rintro r w3 ⟨⟨a5, c5, rfl, oA⟩, hb⟩
      replace oA := oA.li.mono (B' := 0) (Nat.zero_le _)
      replace vP := vP.below hb
      replace hM := hM.below hb
      replace hB := below_next hB hb
      clear hb
      clear e0 e1 e2 pK1
      have v3 := blk_new w3 y.arr 27
      have hb := below_box w3 (.cells y.arr 27)
      go_upto_region 11 with (go_big_may; first | refine alloc_zero zeroLe rfl rfl ?_ | refine store_new rfl 27 _ _ rfl (cells := y.arr) rfl rfl sizeLe rfl (Le.arr_one _) ?_)
      try simp only [Act.put]
      generalize w3.alloc (Obj.cells y.arr 27) = V3 at v3 hb ⊢
      generalize w3.heap.size = z3 at v3 ⊢
      replace oA := oA.below hb
      replace vP := vP.below hb
      replace hM := hM.below hb
      replace hB := below_next hB hb
      clear hb
      have e0 : V3.cell? ⟨w.heap.size, 0, none⟩ = some (.int .i64 x.fr) := vP.cell 0 _ rfl
      have e1 : V3.cell? ⟨w.heap.size, 1, none⟩ = some (.int .i64 x.u) := vP.cell 1 _ rfl
      have e2 : V3.cell? ⟨w.heap.size, 2, none⟩ = some (.int .i64 x.ix) := vP.cell 2 _ rfl
      go_wp2_with fail
      refine (pK2 V3 (hM.li.mono (Nat.zero_le _))).mono ?_
      rintro r w4 ⟨⟨a6, c6, rfl, oC⟩, hb⟩
      replace oC := oC.li.mono (B' := 0) (Nat.zero_le _)
      replace oA := oA.below hb
      replace v3 := v3.below hb
      replace hB := below_next hB hb
      clear hb e0 e1 e2 pK2 hM vP
      have v4 := blk_new w4 v.arr 27
      have hb := below_box w4 (.cells v.arr 27)
      go_upto_region 12 with (go_big_may; first | refine alloc_zero zeroLe rfl rfl ?_ | refine store_new rfl 27 _ _ rfl (cells := v.arr) rfl rfl sizeLe rfl (Le.arr_one _) ?_)
      try simp only [Act.put]
      generalize w4.alloc (Obj.cells v.arr 27) = V4 at v4 hb ⊢
      generalize w4.heap.size = z4 at v4 ⊢
      replace oA := oA.below hb
      replace oC := oC.below hb
      replace v3 := v3.below hb
      replace hB := below_next hB hb
      clear hb
      go_wp2_with fail
      refine (fixed_ok V4).mono ?_
      rintro r w5 ⟨rfl, hb⟩
      replace oA := oA.below hb
      replace oC := oC.below hb
      replace v3 := v3.below hb
      replace v4 := v4.below hb
      replace hB := below_next hB hb
      clear hb
      have f0 : w5.cell? ⟨z3, 0, none⟩ = some (.int .i64 y.fr) := v3.cell 0 _ rfl
      have f1 : w5.cell? ⟨z3, 1, none⟩ = some (.int .i64 y.u) := v3.cell 1 _ rfl
      have f2 : w5.cell? ⟨z4, 0, none⟩ = some (.int .i64 y.fr) := by rw [g1]; exact v4.cell 0 _ rfl
      have f3 : w5.cell? ⟨z4, 1, none⟩ = some (.int .i64 y.u) := by rw [g2]; exact v4.cell 1 _ rfl
      have i1 : ((p : Int) != (p : Int)) = false := by simp
      have i2 : (t != t) = false := by simp
      have i3 : ((na : Int) != (na : Int)) = false := by simp
      have i4 : (y.fr != y.fr) = false := by simp
      have i5 : (y.u != y.u) = false := by simp
      clear g1 g2 v3 v4
      go_upto_region 15 with fail
      try simp only [Act.put]
      clear f0 f1 f2 f3 i1 i2 i3 i4 i5
      go_loopw [19] (fun iv wx => ∃ i : Nat, i ≤ na ∧ iv = .int .i64 i ∧ Li Le.vals 0 a5 A wx ∧ Li Le.vals 0 a6 C wx ∧ Below w.heap.size w wx) (fun iv _ => na - (intOf iv).toNat)
      case atStart => exact ⟨0, by omega, rfl, oA, oC, hB⟩
      case round =>
        clear oA oC hB
        obtain ⟨i, hi, rfl, oA, oC, hB⟩ := hrel
        rename World => wx
        by_cases hin : i < na
        · have j0 : (i : Int) < (na : Int) := by omega
          have j1 : (0 : Int) ≤ (i : Int) := by omega
          obtain ⟨xa, hxa⟩ : ∃ xa, A[i]? = some xa := ⟨_, List.getElem?_eq_getElem (by rw [hna.out]; exact hin)⟩
          obtain ⟨xc, hxc⟩ : ∃ xc, C[i]? = some xc := ⟨_, List.getElem?_eq_getElem (by rw [hnc.out]; exact hin)⟩
          obtain ⟨k0, k1⟩ := kA.two i xa xc hxa hxc
          obtain ⟨b, o, rfl, _, _, hr⟩ := oA.at Le.vals_length i xa hxa
          obtain ⟨b', o', rfl, _, _, hr'⟩ := oC.at Le.vals_length i xc hxc
          have q0 : ∀ d' os, (grow (redrawn wx d') os).cell? ⟨b, o + i * 4, none⟩ = some (.int .i64 xa.fr) := cell_regrown (by have := hr 0 _ rfl; simpa using this)
          have q1 : ∀ d' os, (grow (redrawn wx d') os).cell? ⟨b, o + i * 4 + 1, none⟩ = some (.int .i64 xa.u) := cell_regrown (hr 1 _ rfl)
          have q2 : ∀ d' os, (grow (redrawn wx d') os).cell? ⟨b', o' + i * 4, none⟩ = some (.int .i64 xa.fr) := cell_regrown (by have := hr' 0 _ rfl; rw [k0]; simpa using this)
          have q3 : ∀ d' os, (grow (redrawn wx d') os).cell? ⟨b', o' + i * 4 + 1, none⟩ = some (.int .i64 xa.u) := cell_regrown (by have := hr' 1 _ rfl; rw [k1]; exact this)
          have g0 : (xa.fr != xa.fr) = false := by simp
          have g1 : (xa.u != xa.u) = false := by simp
          clear hxa hxc k0 k1 hr hr'
          go_upto_region 17 with fail
          try simp only [Act.put]
          refine wp_region_quiet_below (by kernel_rfl) (by kernel_rfl) ?_
          repeat (first
            | go_big_quiet_step (fail))
          refine wpQuiet_nil ?_
          intro _ hw'
          obtain ⟨⟨dq, osq⟩, hw''⟩ := hw'
          have hb := below_regrown wx dq osq
          subst hw''
          generalize grow (redrawn wx dq) osq = u1 at hb ⊢
          replace oA := oA.below hb
          replace oC := oC.below hb
          replace hB := hB.trans (hb.mono hB.size)
          clear hb
          clear q0 q1 q2 q3 g0 g1
          go_wp2_with fail
          exact ⟨⟨i + 1, by omega, by go_num, oA, oC, hB⟩, by simp [intOf]; omega⟩
        · obtain rfl : i = na := by omega
          clear oA oC
          go_wp2_with fail
          go_ret
          exact ⟨rfl, hB⟩

set_option maxRecDepth 100000 in
theorem lifted (os : Go.Os) (started : os.Started) (H : Type) (enc : TypeId × Value → H) :
    ReturnsInHanded {} Try.checked os 4 .any (Rows.lossyBlindSpec.pre6 enc Try.prog Try.f4 Rows.lossyBlindRow.domain false) (Rows.lossyBlindSpec.post enc Try.prog Try.f4 false true false false) := by
  refine returnsInHanded_of_change_sized (C := Try.checked) own started (by kernel_rfl) Try.func4
    (ChangeSpec.witness6 (enc := enc) (C := Try.checked) false ⟨#[], #[.slice none 0 0, .slice none 0 0, .agg Pi.zero.arr], []⟩ 8 (by kernel_rfl) (by kernel_rfl) (by kernel_rfl) (by kernel_rfl)) ?_
  intro W base args ds gs before hval0 hW hcnd hsz0 _
  have hval : ∀ (j : Nat) t v, Try.f4.params[j]? = some t → args[j]? = some v → Value.okWide Try.prog W .any base t v := hval0
  have hsz : (DataW.weightsEach Try.prog (Try.f4.params.toList ++ Rows.lossyBlindSpec.plain.varTypes Try.prog) (ds ++ gs)).all (· ≤ reachBytes) = true := hsz0
  have hW' := hW
  obtain ⟨p, q, hA0, hV, rfl, hfz, hnd⟩ := hW
  have hA : DataW.TrodAll enc Try.prog W 0 (fun _ => true) true Try.f4.params.toList args.toList ds p := hA0
  rw [Try.params4] at hA hval hsz

  obtain ⟨v0, vs0, d0, ds0, p0, q0, hargs, rfl, rfl, h0, r0⟩ := trodAll_cons hA
  obtain ⟨v1, vs1, d1, ds1, p1, q1, rfl, rfl, rfl, h1, r1⟩ := trodAll_cons r0
  obtain ⟨v2, vs2, d2, ds2, p2, q2, rfl, rfl, rfl, h2, r2⟩ := trodAll_cons r1
  obtain ⟨rfl, rfl, rfl⟩ := trodAll_nil r2
  obtain rfl : args = #[v0, v1, v2] := by cases args; simp_all
  obtain ⟨rfl, rfl⟩ := trodVars_none hV
  obtain ⟨la0, L0, lc0, rfl, lz0, hc0, hm0, ls0, hS0⟩ := open_les (okWide_slice Try.underlying22 (hval 0 22 v0 rfl rfl)) (fun n hn => of_decide_eq_true (List.all_eq_true.1 hsz _ (DataW.weights_mem_each (j := 0) rfl rfl n hn))) h0
  obtain ⟨la1, L1, lc1, rfl, lz1, hc1, hm1, ls1, hS1⟩ := open_strs (okWide_slice Try.underlying39 (hval 1 39 v1 rfl rfl)) (fun n hn => of_decide_eq_true (List.all_eq_true.1 hsz _ (DataW.weights_mem_each (j := 1) rfl rfl n hn))) h1
  obtain ⟨x2, rfl, kx2⟩ := open_pi (by obtain ⟨cs, h1, _⟩ := okWide_struct Try.underlying25 (hval 2 25 v2 rfl rfl); exact ⟨cs, h1⟩) h2
  have hA2 := hA0
  clear hA0 hval0 hsz0
  simp only [List.append_nil] at hW'
  refine (walk la0 L0 lc0 lz0 hc0 hm0 ls0 la1 L1 lc1 lz1 hc1 hm1 ls1 x2 kx2 W hS0 hS1).mono fun e W' ⟨he, bel⟩ => ?_
  subst he
  exact ⟨_, rfl, _, _, _, [], _, [], hW', trodAll_mk1 (shut_bool Try.underlying4 _), (stays_all laidOut bel (by kernel_rfl) hA2), rfl, bel.frame _, fun h => by cases h⟩

theorem over : Rows.lossyBlindRow.holds Try.pinned (OpenSpec.ofChange Rows.lossyBlindSpec) :=
  OpenClaim.holds_of_wide 4 Try.f4 rfl rfl rfl rfl rfl rfl rfl ⟨rfl, rfl, rfl, rfl, rfl⟩ rfl rfl rfl rfl rfl (by kernel_rfl) Try.func4 (by kernel_rfl)
    (of_decide_eq_true (by kernel_rfl)) (by unfold Func.isWrapper; first | (rw [if_pos (by decide +kernel)]; kernel_rfl) | (rw [if_neg (by decide +kernel)]; exact ⟨rfl, rfl⟩))
    (fun os started H enc _ => lifted os started H enc)

end Go.Proofs.Ythkfolohhdafkaa.lossyBlind
namespace Go.Proofs.Ythkfolohhdafkaa

theorem lossyBlind_holds : Rows.LossyBlindSaid := lossyBlind.over
#print axioms lossyBlind_holds

end Go.Proofs.Ythkfolohhdafkaa
