/-
  From an empty table on, whatever is minted, revoked and dropped: a handle gives something for a session just if the last thing that was done with it was to mint it: the law RightMinted returns true for every input.
  No condition beyond the form's own.
-/
import Derived.Test.YtbefamedligoeaaRows
import Derived.Test.YtbefamedligoeaaRtN
import Derived.WalkKit
import Derived.ProofKit
import Derived.OpenShut
import Derived.ShutString
import Derived.SizedLaws
import Derived.ChangeOld
import Derived.Below
namespace Go.Proofs.Ytbefamedligoeaa.rightMinted
open Go.Sort Go.ChangeShapes Go.WideShapes Go.ChangeAt Go.RowKit
open Go.ChangeMaps (open_string shut_string)
set_option linter.unusedVariables false
set_option maxRecDepth 10000

theorem own : ownKnob Try.prog.godebug = none := by kernel_rfl
theorem length_bytes (s : ByteArray) : s.data.toList.length = s.size := by rw [Array.length_toList]; rfl

set_option maxHeartbeats 8000000 in
theorem walk (ma : Option Addr) (M : List Dx) (mc : Nat) (mz : M.length * 32 ≤ 140737488351232) (mk : M.length ≤ mc) (mm : mc ≤ maxLen) (ms : ∀ x ∈ M, x.fit) (hd0 : Int) (hw0 : (Lit.int .u64 hd0).wf = true) (want : Int) (ww : (Lit.int .i64 want).wf = true) (w : World) (hM : Li Dx.vals 0 ma M w) :
    Calls Try.prog 4 #[.slice ma M.length mc, .int .u64 hd0, .int .i64 want] w fun e w' => e = .returned (.bool true) ∧ Below w.heap.size w w' := by
  obtain ⟨hd, rfl, hdb⟩ := u64_nat hd0 hw0
  have hwb := i64_of want ww
  obtain ⟨m, hm⟩ : ∃ m, Hid (M.length = m) := ⟨_, rfl⟩
  rw [hm.out] at mz mk ⊢
  have hl0 : Li Ri.vals 0 (some ⟨w.heap.size, 0, none⟩) [] (w.alloc (.cells #[] 46)) := .inl rfl
  have hB0 := below_box w (.cells #[] 46)
  go_enter Try.func4, Try.ntmps4
  go_wp2_with (refine box_Ri0 rfl rfl ?_)
  go_loopw [7, 8, 9, 10] (fun tv sv gv iv wr => ∃ (j : Nat) (a : Option Addr) (n c S : Nat) (G : Int) (L : List Ri), j ≤ m ∧ j ≤ 100 ∧ iv = .int .i64 j ∧ tv = .slice a n c ∧ sv = .int .u64 (S : Int) ∧ gv = .int .i64 G ∧ Hid (L.length = n) ∧ Hid (InvM hd L S G) ∧ Li Ri.vals 0 a L wr ∧ Below w.heap.size w wr) (fun _ _ _ iv _ => 100 - (intOf iv).toNat)
  case atStart => exact ⟨0, _, 0, 0, 0, 0, [], by omega, by omega, rfl, rfl, rfl, rfl, rfl, inv_none hd, hl0, hB0⟩
  case round =>
    clear hl0 hB0
    obtain ⟨j, a, n, c, S, G, L, hj, hj1, rfl, rfl, rfl, rfl, hn, HI, hl, hB⟩ := hrel
    rename World => wr
    have hn16 : n ≤ 16 := by rw [← hn.out]; exact HI.out.1.1
    by_cases hjm : j < m ∧ j < 100
    · obtain ⟨hjm, hj2⟩ := hjm
      have j0 : (j : Int) < (m : Int) := by omega
      have j1 : (0 : Int) ≤ (j : Int) := by omega
      have j2 : (j : Int) < 100 := by omega
      obtain ⟨x, hx⟩ : ∃ k, M[j]? = some k := ⟨_, List.getElem?_eq_getElem (by rw [hm.out]; exact hjm)⟩
      obtain ⟨b, o, rfl, _, hbl, hr⟩ := (hM.below hB).at Dx.vals_length j x hx
      have b1 := blk_new wr x.arr 25
      have hb := below_box wr (.cells x.arr 25)
      have pD := done_ok x L a c (by rw [hn.out]; omega)
      obtain ⟨D, hD⟩ : ∃ D, Hid (doneL L x = D) := ⟨_, rfl⟩
      obtain ⟨nd, hnd⟩ : ∃ nd, Hid (D.length = nd) := ⟨_, rfl⟩
      unfold Dn at pD
      rw [hD.out, hn.out, hnd.out] at pD
      have hnd16 : nd ≤ 16 := by rw [← hnd.out, ← hD.out]; exact (may_done HI.out.1 x).1
      go_upto_region 7 with (go_big_may; first | refine load_range rfl 25 _ rfl x.vals hr rfl Try.underlying25 rfl sizeDx ?_ | refine alloc_zero zeroDx rfl rfl ?_ | refine store_new rfl 25 _ _ rfl (cells := x.arr) rfl rfl sizeDx rfl x.arr_one ?_)
      try simp only [Act.put]
      generalize wr.alloc (Obj.cells x.arr 25) = W1 at b1 hb ⊢
      replace hl := hl.below hb
      replace hB := hB.trans (hb.mono hB.size)
      generalize wr.heap.size = z at b1 ⊢
      clear hb hr hbl
      go_wp2_with (refine load_blk rfl 25 _ rfl b1 rfl Try.underlying25 rfl sizeDx ?_)
      refine (pD W1 hl).mono ?_
      rintro r w2 ⟨⟨a2, c2, rfl, _, h2⟩, hb⟩
      have hl2 : Li Ri.vals 0 a2 D w2 := by
        rcases h2 with ⟨rfl, rfl, rfl⟩ | h2
        · exact hl.below hb
        · exact h2.li.mono (Nat.zero_le _)
      replace b1 := b1.below hb
      replace hB := below_next hB hb
      have c0 : w2.cell? ⟨z, 0, none⟩ = some (.int .i64 x.d) := b1.cell 0 _ rfl
      have c1 : w2.cell? ⟨z, 1, none⟩ = some (.int .u64 (x.h : Int)) := b1.cell 1 _ rfl
      have c2' : w2.cell? ⟨z, 2, none⟩ = some (.int .u64 (x.s : Int)) := b1.cell 2 _ rfl
      have c3' : w2.cell? ⟨z, 3, none⟩ = some (.int .i64 x.g) := b1.cell 3 _ rfl
      clear hb h2 pD hl hx
      by_cases h0 : x.d = 0
      · by_cases h1 : x.h = hd
        · have d1 : ((x.h : Int) == (hd : Int)) = true := by simp [h1]
          by_cases h3 : n < nd
          · have d3 : (n : Int) < (nd : Int) := by omega
            rw [h0] at c0
            have HI' : Hid (InvM hd D x.s x.g) := by show InvM hd D x.s x.g; rw [← hD.out]; exact inv_mint HI.out x h0 h1 (by rw [hD.out, hn.out, hnd.out]; exact h3)
            clear HI hD
            go_upto_region 9 with fail
            try simp only [Act.put]
            go_region
            have hb := Below.drew (Below.refl w2.heap.size w2)
            replace hl2 := hl2.below hb
            replace hB := below_next hB hb
            have c0' : w2.drew.cell? ⟨z, 0, none⟩ = some (.int .i64 0) := h0 ▸ (b1.below hb).cell 0 _ rfl
            clear c0
            have c0 := c0'
            generalize w2.drew = w3 at hb hl2 hB c0 ⊢
            clear hb c0'
            clear b1
            go_wp2_with fail
            exact ⟨⟨j + 1, a2, nd, c2, x.s, x.g, D, by omega, by omega, by go_num, rfl, rfl, rfl, hnd, HI', hl2, hB⟩, by simp [intOf]; omega⟩
          · have d3 : ¬ (n : Int) < (nd : Int) := by omega
            rw [h0] at c0
            have HI' : Hid (InvM hd D S G) := by show InvM hd D S G; rw [← hD.out]; exact inv_mint0 HI.out x h0 (by rw [hD.out, hn.out, hnd.out]; exact h3)
            clear HI hD
            clear b1
            go_wp2_with fail
            exact ⟨⟨j + 1, a2, nd, c2, S, G, D, by omega, by omega, by go_num, rfl, rfl, rfl, hnd, HI', hl2, hB⟩, by simp [intOf]; omega⟩
        · have d1 : ((x.h : Int) == (hd : Int)) = false := by rw [beq_eq_false_iff_ne]; omega
          rw [h0] at c0
          have HI' : Hid (InvM hd D S G) := by show InvM hd D S G; rw [← hD.out]; exact inv_other HI.out x h1 (by omega)
          clear HI hD
          clear b1
          go_wp2_with fail
          exact ⟨⟨j + 1, a2, nd, c2, S, G, D, by omega, by omega, by go_num, rfl, rfl, rfl, hnd, HI', hl2, hB⟩, by simp [intOf]; omega⟩
      · have d0 : (x.d == 0) = false := by simpa using h0
        by_cases h1 : x.d = 1
        · by_cases h3 : x.h = hd
          · have d1 : ((x.h : Int) == (hd : Int)) = true := by simp [h3]
            rw [h1] at c0
            clear d0
            have HI' : Hid (InvM hd D S 0) := by show InvM hd D S 0; rw [← hD.out]; exact inv_rev HI.out x h1 h3
            clear HI hD
            clear b1
            go_wp2_with fail
            exact ⟨⟨j + 1, a2, nd, c2, S, 0, D, by omega, by omega, by go_num, rfl, rfl, rfl, hnd, HI', hl2, hB⟩, by simp [intOf]; omega⟩
          · have d1 : ((x.h : Int) == (hd : Int)) = false := by rw [beq_eq_false_iff_ne]; omega
            rw [h1] at c0
            clear d0
            have HI' : Hid (InvM hd D S G) := by show InvM hd D S G; rw [← hD.out]; exact inv_other HI.out x h3 (by omega)
            clear HI hD
            clear b1
            go_wp2_with fail
            exact ⟨⟨j + 1, a2, nd, c2, S, G, D, by omega, by omega, by go_num, rfl, rfl, rfl, hnd, HI', hl2, hB⟩, by simp [intOf]; omega⟩
        · have d1 : (x.d == 1) = false := by simpa using h1
          by_cases h2 : x.d = 2
          · by_cases h3 : x.s = S
            · have d3 : ((x.s : Int) == (S : Int)) = true := by simp [h3]
              rw [h2] at c0
              clear d0 d1
              have HI' : Hid (InvM hd D S 0) := by show InvM hd D S 0; rw [← hD.out]; exact inv_drop HI.out x h2 h3
              clear HI hD
              clear b1
              go_wp2_with fail
              exact ⟨⟨j + 1, a2, nd, c2, S, 0, D, by omega, by omega, by go_num, rfl, rfl, rfl, hnd, HI', hl2, hB⟩, by simp [intOf]; omega⟩
            · have d3 : ((x.s : Int) == (S : Int)) = false := by rw [beq_eq_false_iff_ne]; omega
              rw [h2] at c0
              clear d0 d1
              have HI' : Hid (InvM hd D S G) := by show InvM hd D S G; rw [← hD.out]; exact inv_drop0 HI.out x h2 h3
              clear HI hD
              clear b1
              go_wp2_with fail
              exact ⟨⟨j + 1, a2, nd, c2, S, G, D, by omega, by omega, by go_num, rfl, rfl, rfl, hnd, HI', hl2, hB⟩, by simp [intOf]; omega⟩
          · have d2 : (x.d == 2) = false := by simpa using h2
            have HI' : Hid (InvM hd D S G) := by show InvM hd D S G; rw [← hD.out]; exact inv_none0 HI.out x h0 h1 h2
            clear HI hD
            clear b1
            go_wp2_with fail
            exact ⟨⟨j + 1, a2, nd, c2, S, G, D, by omega, by omega, by go_num, rfl, rfl, rfl, hnd, HI', hl2, hB⟩, by simp [intOf]; omega⟩
    · have pM := may_ok L a c (by rw [hn.out]; omega)
      have pC := check_ok hd want L a c (by rw [hn.out]; omega)
      rw [(may_iff L).2 HI.out.1, hn.out] at pM
      rw [inv_end HI.out want, hn.out] at pC
      have hT : ((j : Int) < (m : Int)) ∧ ¬ ((j : Int) < 100) ∨ ¬ ((j : Int) < (m : Int)) := by omega
      have HG : giveB G want = decide (bits .and .i64 G want = want) := rfl
      clear HI hjm
      have key : ∀ (K : Prop), (((j : Int) < (m : Int)) → ¬ ((j : Int) < 100) → K) → (¬ ((j : Int) < (m : Int)) → K) → K := fun K h1 h2 => hT.elim (fun h => h1 h.1 h.2) h2
      clear hT
      refine key _ (fun j2 j3 => ?_) (fun j2 => ?_)
      all_goals (
        clear key
        go_wp2_with fail
        refine (fixed_ok _).mono ?_
        rintro r w2 ⟨rfl, hb⟩
        replace hl := hl.below hb
        replace hB := below_next hB hb
        clear hb
        go_wp2_with fail
        refine (pM w2 hl).mono ?_
        rintro r w3 ⟨rfl, hb⟩
        replace hl := hl.below hb
        replace hB := below_next hB hb
        clear hb pM
        go_wp2_with fail
        refine (pC w3 hl).mono ?_
        rintro r w4 ⟨rfl, hb⟩
        replace hB := below_next hB hb
        clear hb pC hl hn hn16
        cases hg : giftB want with
        | false =>
          rw [if_neg (by simp)]
          have hgg : want < 1 ∨ ¬ want < 1 ∧ 7 < want := by unfold giftB at hg; simp at hg; omega
          clear hg HG
          simp only [chkE, Option.isSome_none, Option.getD_none, Bool.false_eq_true, if_false]
          rcases hgg with hg1 | ⟨hg1, hg2⟩
          · go_wp2_with fail
            go_ret
            exact ⟨rfl, hB⟩
          · go_wp2_with fail
            go_ret
            exact ⟨rfl, hB⟩
        | true =>
          have hgg : ¬ want < 1 ∧ ¬ 7 < want := by unfold giftB at hg; simp at hg; omega
          obtain ⟨hg1, hg2⟩ := hgg
          cases hq : giveB G want with
          | false =>
            rw [if_neg (by simp)]
            have d9 : (bits BinOp.and IntKind.i64 G want != want) = true := by simpa [giveB] using hq
            clear hg HG hq
            simp only [chkE, Option.isSome_none, Option.getD_none, Bool.false_eq_true, if_false]
            go_wp2_with fail
            go_ret
            exact ⟨rfl, hB⟩
          | true =>
            rw [if_pos (by simp)]
            have d9 : (bits BinOp.and IntKind.i64 G want != want) = false := by simpa [giveB] using hq
            clear hg HG hq
            simp only [chkE, Option.isSome_some, Option.getD_some, if_true]
            go_wp2_with fail
            go_ret
            exact ⟨rfl, hB⟩)

set_option maxRecDepth 100000 in
theorem lifted (os : Go.Os) (started : os.Started) (H : Type) (enc : TypeId × Value → H) :
    ReturnsInHanded {} Try.checked os 4 .any (Rows.rightMintedSpec.pre6 enc Try.prog Try.f4 Rows.rightMintedRow.domain false) (Rows.rightMintedSpec.post enc Try.prog Try.f4 false true false false) := by
  refine returnsInHanded_of_change_sized (C := Try.checked) own started (by kernel_rfl) Try.func4
    (ChangeSpec.witness6 (enc := enc) (C := Try.checked) false ⟨#[], #[.slice none 0 0, .int .u64 0, .int .i64 0], []⟩ 8 (by kernel_rfl) (by kernel_rfl) (by kernel_rfl) (by kernel_rfl)) ?_
  intro W base args ds gs before hval0 hW hcnd hsz0 _
  have hval : ∀ (j : Nat) t v, Try.f4.params[j]? = some t → args[j]? = some v → Value.okWide Try.prog W .any base t v := hval0
  have hsz : (DataW.weightsEach Try.prog (Try.f4.params.toList ++ Rows.rightMintedSpec.plain.varTypes Try.prog) (ds ++ gs)).all (· ≤ reachBytes) = true := hsz0
  have hW' := hW
  obtain ⟨p, q, hA0, hV, rfl, hfz, hnd⟩ := hW
  have hA : DataW.TrodAll enc Try.prog W 0 (fun _ => true) true Try.f4.params.toList args.toList ds p := hA0
  rw [Try.params4] at hA hval hsz

  obtain ⟨v0, vs0, d0, ds0, p0, q0, hargs, rfl, rfl, h0, r0⟩ := trodAll_cons hA
  obtain ⟨v1, vs1, d1, ds1, p1, q1, rfl, rfl, rfl, h1, r1⟩ := trodAll_cons r0
  obtain ⟨v2, vs2, d2, ds2, p2, q2, rfl, rfl, rfl, h2, r2⟩ := trodAll_cons r1
  obtain ⟨rfl, rfl, rfl⟩ := trodAll_nil r2
  obtain rfl : args = #[v0, v1, v2] := by cases args; simp_all
  obtain ⟨rfl, rfl⟩ := trodVars_none hV
  obtain ⟨la0, L0, lc0, rfl, lz0, hc0, hm0, ls0, hS0⟩ := open_Dxs (okWide_slice Try.underlying37 (hval 0 37 v0 rfl rfl)) (fun n hn => of_decide_eq_true (List.all_eq_true.1 hsz _ (DataW.weights_mem_each (j := 0) rfl rfl n hn))) h0
  obtain ⟨a1, rfl, rfl, rfl, w1⟩ := open_int Try.underlying23 (hval 1 23 v1 rfl rfl) h1
  obtain ⟨a2, rfl, rfl, rfl, w2⟩ := open_int Try.underlying3 (hval 2 3 v2 rfl rfl) h2
  have hA2 := hA0
  clear hA0 hval0 hsz0
  simp only [List.append_nil] at hW'
  refine (walk la0 L0 lc0 lz0 hc0 hm0 ls0 a1 w1 a2 w2 W hS0).mono fun e W' ⟨he, bel⟩ => ?_
  subst he
  exact ⟨_, rfl, _, _, _, [], _, [], hW', trodAll_mk1 (shut_bool Try.underlying4 _), (stays_all laidOut bel (by kernel_rfl) hA2), rfl, bel.frame _, fun h => by cases h⟩

theorem over : Rows.rightMintedRow.holds Try.pinned (OpenSpec.ofChange Rows.rightMintedSpec) :=
  OpenClaim.holds_of_wide 4 Try.f4 rfl rfl rfl rfl rfl rfl rfl ⟨rfl, rfl, rfl, rfl, rfl⟩ rfl rfl rfl rfl rfl (by kernel_rfl) Try.func4 (by kernel_rfl)
    (of_decide_eq_true (by kernel_rfl)) (by unfold Func.isWrapper; first | (rw [if_pos (by decide +kernel)]; kernel_rfl) | (rw [if_neg (by decide +kernel)]; exact ⟨rfl, rfl⟩))
    (fun os started H enc _ => lifted os started H enc)

end Go.Proofs.Ytbefamedligoeaa.rightMinted
namespace Go.Proofs.Ytbefamedligoeaa

theorem rightMinted_holds : Rows.RightMintedSaid := rightMinted.over
#print axioms rightMinted_holds

end Go.Proofs.Ytbefamedligoeaa
