/-
  What is taken and what still waits is what waited, each once; a session's entries are taken in their order, and still wait in it; as many are taken as there are slots, or all: the law SchedKeeps returns true for every input.
  No condition beyond the form's own.
-/
import Derived.Test.YtkppidcamhbddaaRows
import Derived.Test.YtkppidcamhbddaaScP
import Derived.WalkKit
import Derived.ProofKit
import Derived.OpenShut
import Derived.ShutString
import Derived.SizedLaws
import Derived.ChangeOld
import Derived.Below
namespace Go.Proofs.Ytkppidcamhbddaa.schedKeeps
open Go.Sort Go.ChangeShapes Go.WideShapes Go.ChangeAt Go.RowKit
open Go.ChangeMaps (open_string shut_string)
set_option linter.unusedVariables false
set_option maxRecDepth 10000

theorem own : ownKnob Try.prog.godebug = none := by kernel_rfl
theorem length_bytes (s : ByteArray) : s.data.toList.length = s.size := by rw [Array.length_toList]; rfl

set_option maxHeartbeats 16000000 in
theorem walk (la : Option Addr) (L : List En) (lc : Nat) (lz : L.length * 56 ≤ 140737488351232) (lk : L.length ≤ lc) (lm : lc ≤ maxLen) (ls : ∀ x ∈ L, x.fit) (l0 : Int) (wf : (Lit.int .u64 l0).wf = true) (s : Int) (sw : (Lit.int .i64 s).wf = true) (w : World) (hL : Li En.vals 0 la L w) : Calls Try.prog 4 #[.slice la L.length lc, .int .u64 l0, .int .i64 s] w fun e w' => e = .returned (.bool true) ∧ Below w.heap.size w w' := by
  have hf := fit_ses ls
  obtain ⟨l, rfl, hl⟩ := u64nat wf
  have hs := bounds_i64 sw
  have hB := Below.refl w.heap.size w
  obtain ⟨iI, zI, hI, hz0, hsz, hby, hzs⟩ := infoEn
  obtain ⟨q, hq⟩ : ∃ q, Hid (L.length = q) := ⟨_, rfl⟩
  by_cases h1 : 100 < q
  · have d1 : (100 : Int) < (q : Int) := by omega
    rw [hq.out]
    clear ls lz hL hf hs sw
    go_enter Try.func4, Try.ntmps4
    go_wp2_with fail
    refine (fixed_ok _).mono ?_
    rintro r w1 ⟨rfl, hb⟩
    replace hB := below_next hB hb
    clear hb
    go_wp2_with fail
    refine (fixed_ok _).mono ?_
    rintro r w2 ⟨rfl, hb⟩
    replace hB := below_next hB hb
    clear hb
    go_wp2_with fail
    go_ret
    exact ⟨rfl, hB⟩
  have d1 : ¬ (100 : Int) < (q : Int) := by omega
  have lm3 : L.length ≤ 300 := by have := hq.out; omega
  have p1 := fill_ok L l s hf hl hs la lc lm3
  have p5 := sess_ok L la lc lz
  have hlen := fillS_lens (manyS s) L l
  have hOf := fun s' => fillS_of s' (manyS s) L l
  have hln := sess_len L
  rw [← sessI_len] at hln
  have hsK := sessI_mem L
  obtain ⟨A, hA0⟩ : ∃ A, (fillS (manyS s) L l).1 = A := ⟨_, rfl⟩
  obtain ⟨R, hR0⟩ : ∃ R, (fillS (manyS s) L l).2.1 = R := ⟨_, rfl⟩
  obtain ⟨m, hm0⟩ : ∃ m, (fillS (manyS s) L l).2.2 = m := ⟨_, rfl⟩
  unfold Filled at p1
  rw [hA0, hR0, hm0] at p1
  rw [hA0, hR0] at hlen
  rw [hA0, hR0] at hOf
  clear hA0 hR0 hm0
  have HOF : Hid (∀ s', entS s' A ++ entS s' R = entS s' L) := hOf
  clear hOf
  have hlA : A.length ≤ 300 := by omega
  have hlR : R.length ≤ 300 := by omega
  have Q1 := fun s' a c => of_ok s' A a c hlA
  have Q2 := fun s' a c => of_ok s' R a c hlR
  have Q3 := fun s' a c => of_ok s' L a c lm3
  obtain ⟨nA, hnA⟩ : ∃ x, Hid (A.length = x) := ⟨_, rfl⟩
  obtain ⟨nR, hnR⟩ : ∃ x, Hid (R.length = x) := ⟨_, rfl⟩
  rw [hnA.out, hnR.out] at hlen
  rw [hnA.out] at p1 Q1
  rw [hnR.out] at p1 Q2
  rw [hq.out] at hlen hln p1 p5 Q3
  have HLEN : Hid (nA = min (manyS s) q ∧ nA + nR = q) := hlen
  have e1 : ((nA : Int) + (nR : Int) != (q : Int)) = false := by rw [bne_eq_false_iff_eq]; omega
  have hq100 : q ≤ 100 := by omega
  rw [hq.out] at ⊢
  unfold MadeU at p5
  obtain ⟨K, hK0⟩ : ∃ K, Hid (sessI L = K) := ⟨_, rfl⟩
  rw [hK0.out] at p5 hln
  obtain ⟨nK, hnK⟩ : ∃ x, Hid (K.length = x) := ⟨_, rfl⟩
  rw [hnK.out] at p5 hln
  have hKN : Hid (∀ k ∈ K, ∃ s' : Nat, k = (s' : Int)) := fun k hk => by
    rw [← hK0.out] at hk
    obtain ⟨e, _, h⟩ := (hsK k).1 hk
    exact ⟨e.se, h.symm⟩
  clear hsK hlen ls lz hf lm3
  go_enter Try.func4, Try.ntmps4
  go_wp2_with fail
  refine (fixed_ok _).mono ?_
  rintro r w1 ⟨rfl, hb⟩
  replace hL := hL.below hb
  replace hB := below_next hB hb
  clear hb
  go_wp2_with fail
  refine (p1 _ hL).mono ?_
  rintro r w2 ⟨⟨aA, cA, aR, cR, rfl, hA, hR⟩, hb⟩
  replace hL := hL.below hb
  replace hB := below_next hB hb
  clear hb p1
  go_upto_region 4 with fail
  go_cut [47] from 29 to 47 (fun v wx => v = .bool false ∧ wx = w2)
  case first =>
    have h := HLEN.out
    have hsum : (nA : Int) + (nR : Int) = (q : Int) := by omega
    have hqq : ((q : Int) != (q : Int)) = false := by simp
    clear HLEN hL hA hR hB p5 Q1 Q2 Q3 e1
    by_cases c0 : q = 0
    · have hm := h
      have hn0 : nA = 0 := by omega
      have hr0 : nR = 0 := by omega
      subst hn0 hr0 c0
      clear h hm hsum
      by_cases c1 : 16 < s
      · go_wp2_with fail
        all_goals first | (go_meet; exact ⟨rfl, rfl⟩) | (go_meet; exact ⟨by simp, rfl⟩) | (exfalso; omega)
      · by_cases c2 : s < 0
        · have c3 : ¬ (0 : Int) < s := by omega
          have c4 : s ≤ 0 := by omega
          go_wp2_with fail
          all_goals first | (go_meet; exact ⟨rfl, rfl⟩) | (go_meet; exact ⟨by simp, rfl⟩) | (exfalso; omega)
        · have c3 : ¬ (0 : Int) > s := by omega
          have c4 : 0 ≤ s := by omega
          go_wp2_with fail
          all_goals first | (go_meet; exact ⟨rfl, rfl⟩) | (go_meet; exact ⟨by simp, rfl⟩) | (exfalso; omega)
    · have c7 : (0 : Int) < (q : Int) := by omega
      by_cases c1 : 16 < s
      · have hm : manyS s = 16 := by unfold manyS; omega
        rw [hm] at h
        by_cases c2 : q < 16
        · have e2 : ((nA : Int) != (q : Int)) = false := by rw [bne_eq_false_iff_eq]; omega
          have c3 : (q : Int) < 16 := by omega
          clear h hm
          go_wp2_with fail
          all_goals first | (go_meet; exact ⟨rfl, rfl⟩) | (go_meet; exact ⟨by simp, rfl⟩) | (exfalso; omega)
        · have e2 : ((nA : Int) != 16) = false := by rw [bne_eq_false_iff_eq]; omega
          have c3 : ¬ (q : Int) < 16 := by omega
          clear h hm
          go_wp2_with fail
          all_goals first | (go_meet; exact ⟨rfl, rfl⟩) | (go_meet; exact ⟨by simp, rfl⟩) | (exfalso; omega)
      · by_cases c8 : s ≤ 0
        · have hm : manyS s = 0 := by unfold manyS; omega
          rw [hm] at h
          have e2 : ((nA : Int) != 0) = false := by rw [bne_eq_false_iff_eq]; omega
          have c3 : ¬ (q : Int) < s := by omega
          have c4 : ¬ (0 : Int) < s := by omega
          clear h hm
          go_wp2_with fail
          all_goals first | (go_meet; exact ⟨rfl, rfl⟩) | (go_meet; exact ⟨by simp, rfl⟩) | (exfalso; omega)
        · have hm : manyS s = s.toNat := by unfold manyS; omega
          rw [hm] at h
          have c9 : (0 : Int) < s := by omega
          by_cases c2 : (q : Int) < s
          · have e2 : ((nA : Int) != (q : Int)) = false := by rw [bne_eq_false_iff_eq]; omega
            clear h hm
            go_wp2_with fail
            all_goals first | (go_meet; exact ⟨rfl, rfl⟩) | (go_meet; exact ⟨by simp, rfl⟩) | (exfalso; omega)
          · have e2 : ((nA : Int) != s) = false := by rw [bne_eq_false_iff_eq]; omega
            clear h hm
            go_wp2_with fail
            all_goals first | (go_meet; exact ⟨rfl, rfl⟩) | (go_meet; exact ⟨by simp, rfl⟩) | (exfalso; omega)
  case rest =>
    obtain ⟨rfl, hW⟩ := ‹_ = Value.bool false ∧ _›
    subst hW
    clear e1 d1
    go_wp2_with fail
    refine (p5 _ hL).mono ?_
    rintro r w3 ⟨⟨aK, cK, rfl, hK⟩, hb⟩
    replace hL := hL.below hb
    replace hA := hA.below hb
    replace hR := hR.below hb
    replace hB := below_next hB hb
    clear hb p5
    go_wp2_with fail
    go_loopw [11] (fun iv wr => ∃ j : Nat, j ≤ nK ∧ iv = .int .i64 j ∧ Li encU 0 aK K wr ∧ Li En.vals 0 la L wr ∧ Li En.vals 0 aA A wr ∧ Li En.vals 0 aR R wr ∧ Below w.heap.size w wr) (fun iv _ => nK - (intOf iv).toNat)
    case atStart => exact ⟨0, by omega, rfl, hK, hL, hA, hR, hB⟩
    case round =>
      clear hK hL hA hR hB
      obtain ⟨j, hj, rfl, hK, hL, hA, hR, hB⟩ := hrel
      rename World => wr
      by_cases hjn : j < nK
      · have j0 : (j : Int) < (nK : Int) := by omega
        have j1 : (0 : Int) ≤ (j : Int) := by omega
        obtain ⟨k, hk⟩ : ∃ k, K[j]? = some k := ⟨_, List.getElem?_eq_getElem (by rw [hnK.out]; exact hjn)⟩
        obtain ⟨s', rfl⟩ := hKN.out k (List.mem_of_getElem? hk)
        obtain ⟨b, o, rfl, _, _, _⟩ := hK.at encU_len j _ hk
        have hKd : ∀ v, Li encU 0 (some ⟨b, o, none⟩) K v → v.cell? ⟨b, o + j, none⟩ = some (.int .u64 (s' : Int)) := fun v hv => by
          have := hv.rng encU_len j _ hk 0 _ rfl
          simpa using this
        have hKc : ∀ v, Below wr.heap.size wr v → v.cell? ⟨b, o + j, none⟩ = some (.int .u64 (s' : Int)) := fun v hv => hKd v (hK.below hv)
        have q1 := fun c v hv => Q1 s' aA c v hv
        have q2 := fun c v hv => Q2 s' aR c v hv
        have q3 := fun c v hv => Q3 s' la c v hv
        have q4 := fun a b c d => ents_ok (entS s' L) a b c d (by have h : (entS s' L).length ≤ L.length := List.length_filter_le _ _; have := hq.out; omega)
        have hof : Hid (entS s' A ++ entS s' R = entS s' L) := HOF.out s'
        have hof2 : (entS s' A).length + (entS s' R).length = (entS s' L).length := by rw [← List.length_append, hof.out]
        have hof3 : (entS s' L).length ≤ 100 := by have h : (entS s' L).length ≤ L.length := List.length_filter_le _ _; have := hq.out; omega
        unfold MadeEn at q1 q2 q3
        obtain ⟨nX, hnX⟩ : ∃ x, Hid ((entS s' A).length = x) := ⟨_, rfl⟩
        obtain ⟨nY, hnY⟩ : ∃ x, Hid ((entS s' R).length = x) := ⟨_, rfl⟩
        rw [hnX.out] at q1 hof2
        rw [hnY.out] at q2 hof2
        rw [← hof2] at q3 q4 hof3
        clear hof2 hk
        go_upto_region 10 with fail
        try simp only [Act.put, List.setIfInBounds_toArray, List.set_cons_zero, List.set_cons_succ]
        refine wp_region_held_drew (S := fun v => Below wr.heap.size wr v) (by kernel_rfl) ((Below.refl _ _).drew) (fun hHeld => ?_)
        refine wpAnyH_take (i := 0) (v := ?v1) rfl (by kernel_rfl) (by kernel_rfl) (by kernel_rfl) (fun _ _ _ h => h) (Or.inl ⟨by rfl, ?hy1⟩) hHeld ?rest1
        case hy1 => (intro w hSw; clear hSw; go_simp; try with_reducible rfl)
        try simp only [List.getElem_toArray]
        try simp only [List.getElem_cons_succ]
        try simp only [List.getElem_cons_zero]
        try simp only [Act.put]
        try simp only [List.setIfInBounds_toArray]
        try simp only [List.set_cons_succ]
        try simp only [List.set_cons_zero]
        refine wpAnyH_take (i := 1) (v := ?v2) rfl (by kernel_rfl) (by kernel_rfl) (by kernel_rfl) (fun _ _ _ h => h) (Or.inl ⟨by rfl, ?hy2⟩) hHeld ?rest2
        case hy2 => (intro w hSw; clear hSw; go_simp; try with_reducible rfl)
        try simp only [List.getElem_toArray]
        try simp only [List.getElem_cons_succ]
        try simp only [List.getElem_cons_zero]
        try simp only [Act.put]
        try simp only [List.setIfInBounds_toArray]
        try simp only [List.set_cons_succ]
        try simp only [List.set_cons_zero]
        refine wpAnyH_take (i := 2) (v := ?v3) rfl (by kernel_rfl) (by kernel_rfl) (by kernel_rfl) (fun _ _ _ h => h) (Or.inl ⟨by rfl, ?hy3⟩) hHeld ?rest3
        case hy3 => (intro w hSw; clear hSw; go_simp; try with_reducible rfl)
        try simp only [List.getElem_toArray]
        try simp only [List.getElem_cons_succ]
        try simp only [List.getElem_cons_zero]
        try simp only [Act.put]
        try simp only [List.setIfInBounds_toArray]
        try simp only [List.set_cons_succ]
        try simp only [List.set_cons_zero]
        refine wpAnyH_take (i := 3) (v := ?v4) rfl (by kernel_rfl) (by kernel_rfl) (by kernel_rfl) (fun _ _ _ h => h) (Or.inl ⟨by rfl, ?hy4⟩) hHeld ?rest4
        case hy4 => (intro w hSw; clear hSw; go_simp; try with_reducible rfl)
        try simp only [List.getElem_toArray]
        try simp only [List.getElem_cons_succ]
        try simp only [List.getElem_cons_zero]
        try simp only [Act.put]
        try simp only [List.setIfInBounds_toArray]
        try simp only [List.set_cons_succ]
        try simp only [List.set_cons_zero]
        refine wpAnyH_take (i := 4) (v := ?v5) rfl (by kernel_rfl) (by kernel_rfl) (by kernel_rfl) (fun _ _ _ h => h) (Or.inl ⟨by rfl, ?hy5⟩) hHeld ?rest5
        case hy5 => (intro w hSw; have hc := hKc _ hSw; clear hSw; go_simp; try with_reducible rfl)
        try simp only [List.getElem_toArray]
        try simp only [List.getElem_cons_succ]
        try simp only [List.getElem_cons_zero]
        try simp only [Act.put]
        try simp only [List.setIfInBounds_toArray]
        try simp only [List.set_cons_succ]
        try simp only [List.set_cons_zero]
        refine wpAnyH_take (i := 6) (v := ?v6) rfl (by kernel_rfl) (by kernel_rfl) (by kernel_rfl) (fun _ _ _ h => h) (Or.inl ⟨by rfl, ?hy6⟩) hHeld ?rest6
        case hy6 => (intro w hSw; clear hSw; go_simp; try with_reducible rfl)
        try simp only [List.getElem_toArray]
        try simp only [List.getElem_cons_succ]
        try simp only [List.getElem_cons_zero]
        try simp only [Act.put]
        try simp only [List.setIfInBounds_toArray]
        try simp only [List.set_cons_succ]
        try simp only [List.set_cons_zero]
        refine wpAnyH_take (i := 7) (v := ?v7) rfl (by kernel_rfl) (by kernel_rfl) (by kernel_rfl) (fun _ _ _ h => h) (Or.inl ⟨by rfl, ?hy7⟩) hHeld ?rest7
        case hy7 => (intro w hSw; clear hSw; go_simp; try with_reducible rfl)
        try simp only [List.getElem_toArray]
        try simp only [List.getElem_cons_succ]
        try simp only [List.getElem_cons_zero]
        try simp only [Act.put]
        try simp only [List.setIfInBounds_toArray]
        try simp only [List.set_cons_succ]
        try simp only [List.set_cons_zero]
        refine wpAnyH_take (i := 8) (v := ?v8) rfl (by kernel_rfl) (by kernel_rfl) (by kernel_rfl) (fun _ _ _ h => h) (Or.inl ⟨by rfl, ?hy8⟩) hHeld ?rest8
        case hy8 => (intro w hSw; clear hSw; go_simp; try with_reducible rfl)
        try simp only [List.getElem_toArray]
        try simp only [List.getElem_cons_succ]
        try simp only [List.getElem_cons_zero]
        try simp only [Act.put]
        try simp only [List.setIfInBounds_toArray]
        try simp only [List.set_cons_succ]
        try simp only [List.set_cons_zero]
        refine wpAnyH_take (i := 9) (v := ?v9) rfl (by kernel_rfl) (by kernel_rfl) (by kernel_rfl) (fun _ _ _ h => h) (Or.inl ⟨by rfl, ?hy9⟩) hHeld ?rest9
        case hy9 => (intro w hSw; clear hSw; go_simp; try with_reducible rfl)
        try simp only [List.getElem_toArray]
        try simp only [List.getElem_cons_succ]
        try simp only [List.getElem_cons_zero]
        try simp only [Act.put]
        try simp only [List.setIfInBounds_toArray]
        try simp only [List.set_cons_succ]
        try simp only [List.set_cons_zero]
        refine wpAnyH_take (i := 10) (v := ?v10) rfl (by kernel_rfl) (by kernel_rfl) (by kernel_rfl) (fun _ _ _ h => h) (Or.inl ⟨by rfl, ?hy10⟩) hHeld ?rest10
        case hy10 => (intro w hSw; have hc := hKc _ hSw; clear hSw; go_simp; try with_reducible rfl)
        try simp only [List.getElem_toArray]
        try simp only [List.getElem_cons_succ]
        try simp only [List.getElem_cons_zero]
        try simp only [Act.put]
        try simp only [List.setIfInBounds_toArray]
        try simp only [List.set_cons_succ]
        try simp only [List.set_cons_zero]
        refine wpAnyH_ready (rs := [5]) (by kernel_rfl) (by simp) ?_
        refine AllReadyH.cons rfl (fun K hK => ?_) (AllReadyH.nil)
        go_simp
        go_wp2_with (refine (q1 _ _ (hA.below hHeld)).mono ?_; rintro r u1 ⟨⟨aX, cX, rfl, hX⟩, hb⟩)
        replace hX := hX.mono hHeld.size
        refine hK.out _ _ (below_next hHeld hb) (fun hHeld => ?_)
        clear hK K hb
        refine wpAnyH_ready (rs := [11]) (by kernel_rfl) (by simp) ?_
        refine AllReadyH.cons rfl (fun K hK => ?_) (AllReadyH.nil)
        go_simp
        go_wp2_with (refine (q2 _ _ (hR.below hHeld)).mono ?_; rintro r u2 ⟨⟨aY, cY, rfl, hY⟩, hb⟩)
        replace hY := hY.li.mono (Nat.zero_le _)
        replace hX := hX.below hb
        refine hK.out _ _ (below_next hHeld hb) (fun hHeld => ?_)
        clear hK K hb
        refine wpAnyH_ready (rs := [12]) (by kernel_rfl) (by simp) ?_
        refine AllReadyH.cons rfl (fun K hK => ?_) (AllReadyH.nil)
        rw [if_pos (by rfl)]
        obtain ⟨vY, hvY, hxs⟩ : ∃ v, v = Value.slice aY nY cY ∧ Src Try.prog 6 22 v (entS s' R).length (flat En.vals (entS s' R)) _ := ⟨_, by rw [hnY.out], hY.src (P := Try.prog) En.vals_length En.vals_one Try.underlying22 cY⟩
        subst hvY
        refine wp_append_any En.vals_length _ _ rfl Try.underlying22 hI hz0 hsz hby hzs hX hHeld.size hnX.out rfl (M := entS s' R) (m := nY) hnY.out hxs rfl rfl (by omega) (by simp only [maxLen]; omega) ?_
        intro aZ cZ u3 hZ hkZ _
        refine hK.out _ _ (hHeld.trans (hkZ.below (fun k hk => (hX.in k hk).1) hHeld.size)) (fun hHeld => ?_)
        clear hK K hkZ hxs hX hY
        try simp only [List.getElem_toArray]
        try simp only [List.getElem_cons_succ]
        try simp only [List.getElem_cons_zero]
        try simp only [Act.put]
        try simp only [List.setIfInBounds_toArray]
        try simp only [List.set_cons_succ]
        try simp only [List.set_cons_zero]
        refine wpAnyH_take (i := 13) (v := ?v11) rfl (by kernel_rfl) (by kernel_rfl) (by kernel_rfl) (fun _ _ _ h => h) (Or.inl ⟨by rfl, ?hy11⟩) hHeld ?rest11
        case hy11 => (intro w hSw; clear hSw; go_simp; try with_reducible rfl)
        try simp only [List.getElem_toArray]
        try simp only [List.getElem_cons_succ]
        try simp only [List.getElem_cons_zero]
        try simp only [Act.put]
        try simp only [List.setIfInBounds_toArray]
        try simp only [List.set_cons_succ]
        try simp only [List.set_cons_zero]
        refine wpAnyH_done (by kernel_rfl) ?_ _
        have hH1 := hHeld
        replace hB := below_next hB hHeld
        replace hK := hK.below hHeld
        replace hL := hL.below hHeld
        replace hA := hA.below hHeld
        replace hR := hR.below hHeld
        have hZ1 := hZ.li.mono (Nat.zero_le wr.heap.size)
        clear hHeld hH1 hZ
        have hc9 := hKd _ hK
        go_wp2_with fail
        refine (q3 _ _ hL).mono ?_
        rintro r w5 ⟨⟨aW, cW, rfl, hW⟩, hb⟩
        replace hB := below_next hB hb
        replace hK := hK.below hb
        replace hL := hL.below hb
        replace hA := hA.below hb
        replace hR := hR.below hb
        replace hZ1 := hZ1.below hb
        have hW1 := hW.li.mono (Nat.zero_le _)
        clear hb hW hc9
        rw [hof.out] at hZ1
        go_wp2_with fail
        refine (q4 _ _ _ _ _ hZ1 hW1).mono ?_
        rintro r w6 ⟨rfl, hb⟩
        replace hB := below_next hB hb
        replace hK := hK.below hb
        replace hL := hL.below hb
        replace hA := hA.below hb
        replace hR := hR.below hb
        clear hb hZ1 hW1
        go_wp2_with fail
        exact ⟨⟨j + 1, by omega, by go_num, hK, hL, hA, hR, hB⟩, by simp [intOf]; omega⟩
      · obtain rfl : j = nK := by omega
        clear hK hL hA hR
        go_wp2_with fail
        go_ret
        exact ⟨rfl, hB⟩

set_option maxRecDepth 100000 in
theorem lifted (os : Go.Os) (started : os.Started) (H : Type) (enc : TypeId × Value → H) :
    ReturnsInHanded {} Try.checked os 4 .any (Rows.schedKeepsSpec.pre6 enc Try.prog Try.f4 Rows.schedKeepsRow.domain false) (Rows.schedKeepsSpec.post enc Try.prog Try.f4 false true false false) := by
  refine returnsInHanded_of_change_sized (C := Try.checked) own started (by kernel_rfl) Try.func4
    (ChangeSpec.witness6 (enc := enc) (C := Try.checked) false ⟨#[], #[.slice none 0 0, .int .u64 0, .int .i64 0], []⟩ 8 (by kernel_rfl) (by kernel_rfl) (by kernel_rfl) (by kernel_rfl)) ?_
  intro W base args ds gs before hval0 hW hcnd hsz0 _
  have hval : ∀ (j : Nat) t v, Try.f4.params[j]? = some t → args[j]? = some v → Value.okWide Try.prog W .any base t v := hval0
  have hsz : (DataW.weightsEach Try.prog (Try.f4.params.toList ++ Rows.schedKeepsSpec.plain.varTypes Try.prog) (ds ++ gs)).all (· ≤ reachBytes) = true := hsz0
  have hW' := hW
  obtain ⟨p, q, hA0, hV, rfl, hfz, hnd⟩ := hW
  have hA : DataW.TrodAll enc Try.prog W 0 (fun _ => true) true Try.f4.params.toList args.toList ds p := hA0
  rw [Try.params4] at hA hval hsz

  obtain ⟨v0, vs0, d0, ds0, p0, q0, hargs, rfl, rfl, h0, r0⟩ := trodAll_cons hA
  obtain ⟨v1, vs1, d1, ds1, p1, q1, rfl, rfl, rfl, h1, r1⟩ := trodAll_cons r0
  obtain ⟨v2, vs2, d2, ds2, p2, q2, rfl, rfl, rfl, h2, r2⟩ := trodAll_cons r1
  obtain ⟨rfl, rfl, rfl⟩ := trodAll_nil r2
  obtain rfl : args = #[v0, v1, v2] := by cases args; simp_all
  obtain ⟨rfl, rfl⟩ := trodVars_none hV
  obtain ⟨la0, L0, lc0, rfl, lz0, hc0, hm0, ls0, hS0⟩ := open_EnsW (okWide_slice Try.underlying22 (hval 0 22 v0 rfl rfl)) (fun n hn => of_decide_eq_true (List.all_eq_true.1 hsz _ (DataW.weights_mem_each (j := 0) rfl rfl n hn))) h0
  obtain ⟨a1, rfl, rfl, rfl, w1⟩ := open_int Try.underlying23 (hval 1 23 v1 rfl rfl) h1
  obtain ⟨a2, rfl, rfl, rfl, w2⟩ := open_int Try.underlying3 (hval 2 3 v2 rfl rfl) h2
  have hA2 := hA0
  clear hA0 hval0 hsz0
  simp only [List.append_nil] at hW'
  refine (walk la0 L0 lc0 lz0 hc0 hm0 ls0 a1 w1 a2 w2 W hS0).mono fun e W' ⟨he, bel⟩ => ?_
  subst he
  exact ⟨_, rfl, _, _, _, [], _, [], hW', trodAll_mk1 (shut_bool Try.underlying4 _), (stays_all laidOut bel (by kernel_rfl) hA2), rfl, bel.frame _, fun h => by cases h⟩

theorem over : Rows.schedKeepsRow.holds Try.pinned (OpenSpec.ofChange Rows.schedKeepsSpec) :=
  OpenClaim.holds_of_wide 4 Try.f4 rfl rfl rfl rfl rfl rfl rfl ⟨rfl, rfl, rfl, rfl, rfl⟩ rfl rfl rfl rfl rfl (by kernel_rfl) Try.func4 (by kernel_rfl)
    (of_decide_eq_true (by kernel_rfl)) (by unfold Func.isWrapper; first | (rw [if_pos (by decide +kernel)]; kernel_rfl) | (rw [if_neg (by decide +kernel)]; exact ⟨rfl, rfl⟩))
    (fun os started H enc _ => lifted os started H enc)

end Go.Proofs.Ytkppidcamhbddaa.schedKeeps
namespace Go.Proofs.Ytkppidcamhbddaa

theorem schedKeeps_holds : Rows.SchedKeepsSaid := schedKeeps.over
#print axioms schedKeeps_holds

end Go.Proofs.Ytkppidcamhbddaa
