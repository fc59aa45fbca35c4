/-
  Capabilities: what the document's Find, Mint, Check, Revoke, Drop and May answer.
  Each theorem says its own conditions: a table that memory bears.
-/
import Derived.Test.YtbefamedligoeaaRtB
namespace Go.Proofs.Ytbefamedligoeaa
set_option maxRecDepth 10000
open Go.RowKit Go.Sort
set_option linter.unusedVariables false
set_option linter.unusedSimpArgs false

theorem take_next {q : Ri → Bool} {L : List Ri} {j : Nat} {k : Ri} (h0 : ∀ k ∈ L.take j, q k = false) (hk : L[j]? = some k) (h : q k = false) : ∀ k ∈ L.take (j + 1), q k = false := by
  intro e he
  rw [List.take_add_one, hk] at he
  rcases List.mem_append.1 he with he | he
  · exact h0 e he
  · simp at he
    rw [he]
    exact h

set_option maxHeartbeats 1000000 in
theorem rfind_ok (h : Nat) (L : List Ri) (la : Option Addr) (lc : Nat) (lm : L.length ≤ 9223372036854775807) (w : World) (hS : Li Ri.vals 0 la L w) :
    Calls Try.prog 23 #[.slice la L.length lc, .int .u64 (h : Int)] w fun e w' => e = .returned (.int .i64 (placeI (fstR h L))) ∧ Below w.heap.size w w' := by
  obtain ⟨n, hn⟩ : ∃ n, Hid (L.length = n) := ⟨_, rfl⟩
  rw [hn.out] at lm ⊢
  go_enter Try.func23, Try.ntmps23
  go_wp2_with fail
  go_loopw [5] (fun iv wr => ∃ j : Nat, j ≤ n ∧ iv = .int .i64 j ∧ Hid (∀ k ∈ L.take j, isHd h k = false) ∧ Li Ri.vals 0 la L wr ∧ Below w.heap.size w wr) (fun iv _ => n - (intOf iv).toNat)
  case atStart => exact ⟨0, by omega, rfl, fun d h => by simp at h, hS, Below.refl _ _⟩
  case round =>
    clear hS
    obtain ⟨j, hj, rfl, h0, hS, hB⟩ := hrel
    rename World => wr
    by_cases hjn : j < n
    · have j0 : (j : Int) < (n : Int) := by omega
      have j1 : (0 : Int) ≤ (j : Int) := by omega
      obtain ⟨x, hx⟩ : ∃ k, L[j]? = some k := ⟨_, List.getElem?_eq_getElem (by rw [hn.out]; exact hjn)⟩
      obtain ⟨b, o, rfl, _, hbl, hr⟩ := hS.at Ri.vals_length j x hx
      have c0 : wr.cell? ⟨b, o + j * 4, none⟩ = some (.int .u64 (x.h : Int)) := hr 0 _ rfl
      have ht : ((x.h : Int) == (h : Int)) = isHd h x := by unfold isHd; rw [Bool.eq_iff_iff]; simp; omega
      cases h1 : isHd h x with
      | true =>
        have HF : Hid (fstR h L = some j) := first_at _ L j x hx h1 h0.out
        rw [h1] at ht
        clear hr h0 hx h1
        go_wp2_with fail
        go_ret
        exact ⟨by simp [HF.out, placeI], hB⟩
      | false =>
        have HF : Hid (∀ k ∈ L.take (j + 1), isHd h k = false) := take_next h0.out hx h1
        rw [h1] at ht
        clear hr h0 hx h1
        go_wp2_with fail
        exact ⟨⟨j + 1, by omega, by go_num, HF, hS, hB⟩, by simp [intOf]; omega⟩
    · obtain rfl : j = n := by omega
      have HF : Hid (fstR h L = none) := first_no _ L (fun k hk => h0.out k (by rw [List.take_of_length_le (by rw [hn.out]; omega)]; exact hk))
      clear h0
      go_wp2_with fail
      go_ret
      exact ⟨by simp [HF.out, placeI], hB⟩

set_option maxHeartbeats 2000000 in
theorem rmint_ok (h s : Nat) (g : Int) (L : List Ri) (la : Option Addr) (lc : Nat) (lm : L.length * 32 ≤ 140737488351232) (w : World) (hS : Li Ri.vals 0 la L w) :
    Calls Try.prog 8 #[.slice la L.length lc, .int .u64 (h : Int), .int .u64 (s : Int), .int .i64 g] w fun e w' => Minted h s g L w.heap.size e w' ∧ Below w.heap.size w w' := by
  obtain ⟨iI, zI, hI, hz0, hsz, hby, hzs⟩ := infoRi
  have pf := rfind_ok h L la lc (by omega)
  obtain ⟨n, hn⟩ : ∃ n, Hid (L.length = n) := ⟨_, rfl⟩
  rw [hn.out] at pf lm ⊢
  by_cases h0 : h = 0
  · have HM : Minted h s g L w.heap.size (.returned (.tuple #[.slice none 0 0, .int .i64 1])) w := minted_no (by unfold mintE; rw [if_pos (.inl h0)]) (by decide)
    have d0 : ((h : Int) == 0) = true := by simp [h0]
    clear h0 pf
    go_enter Try.func8, Try.ntmps8
    go_wp2_with fail
    go_ret2
    exact ⟨HM, Below.refl _ _⟩
  · have d0 : ((h : Int) == 0) = false := by simp [h0]
    rcases fst_cases h L with ⟨h1, _⟩ | ⟨i, x, h1, h2, _⟩
    rotate_left
    · have HM : ∀ w', Minted h s g L w.heap.size (.returned (.tuple #[.slice none 0 0, .int .i64 1])) w' := fun w' => minted_no (by unfold mintE; rw [if_pos (.inr (.inl (by rw [h1]; rfl)))]) (by decide)
      rw [h1] at pf
      simp only [placeI] at pf
      have i0 : (0 : Int) ≤ (i : Int) := by omega
      clear h0 h1 h2
      go_enter Try.func8, Try.ntmps8
      go_wp2_with fail
      refine (pf w hS).mono ?_
      rintro r w1 ⟨rfl, hB⟩
      clear pf
      go_wp2_with fail
      go_ret2
      exact ⟨HM w1, hB⟩
    · rw [h1] at pf
      simp only [placeI] at pf
      cases hg : giftB g with
      | false =>
        have HM : ∀ w', Minted h s g L w.heap.size (.returned (.tuple #[.slice none 0 0, .int .i64 1])) w' := fun w' => minted_no (by unfold mintE; rw [if_pos (.inr (.inr hg))]) (by decide)
        have hgg : g < 1 ∨ ¬ g < 1 ∧ 7 < g := by unfold giftB at hg; simp at hg; omega
        clear h0 h1 hg
        rcases hgg with hg1 | ⟨hg1, hg2⟩
        · go_enter Try.func8, Try.ntmps8
          go_wp2_with fail
          refine (pf w hS).mono ?_
          rintro r w1 ⟨rfl, hB⟩
          clear pf
          go_wp2_with fail
          go_ret2
          exact ⟨HM w1, hB⟩
        · go_enter Try.func8, Try.ntmps8
          go_wp2_with fail
          refine (pf w hS).mono ?_
          rintro r w1 ⟨rfl, hB⟩
          clear pf
          go_wp2_with fail
          go_ret2
          exact ⟨HM w1, hB⟩
      | true =>
        have HE : Hid (mintE h g L = if 16 ≤ n then 161 else 0) := by
          show mintE h g L = _
          unfold mintE
          rw [if_neg, hn.out]
          rintro (h | h | h)
          · exact h0 h
          · rw [h1] at h; cases h
          · rw [hg] at h; cases h
        have hgg : ¬ g < 1 ∧ ¬ 7 < g := by unfold giftB at hg; simp at hg; omega
        obtain ⟨hg1, hg2⟩ := hgg
        clear h1 h0 hg
        by_cases hn16 : 16 ≤ n
        · have HM : ∀ w', Minted h s g L w.heap.size (.returned (.tuple #[.slice none 0 0, .int .i64 161])) w' := fun w' => minted_no (by rw [HE.out, if_pos hn16]) (by decide)
          have d6 : (16 : Int) ≤ (n : Int) := by omega
          clear HE
          go_enter Try.func8, Try.ntmps8
          go_wp2_with fail
          refine (pf w hS).mono ?_
          rintro r w1 ⟨rfl, hB⟩
          clear pf
          go_wp2_with fail
          go_ret2
          exact ⟨HM w1, hB⟩
        · have HM : ∀ a c w', Lg Ri.vals 4 46 w.heap.size a c (L ++ [⟨h, s, g, false⟩]) w' → Minted h s g L w.heap.size (.returned (.tuple #[.slice a (n + 1) c, .int .i64 0])) w' := fun a c w' hl => by
            have e1 : mintE h g L = 0 := by rw [HE.out, if_neg hn16]
            have e2 : mintL h s g L = L ++ [⟨h, s, g, false⟩] := by unfold mintL; rw [e1, if_pos rfl]
            refine ⟨a, c, ?_, ?_⟩
            · rw [e1, e2, List.length_append, hn.out]; rfl
            · rw [e2]; exact hl
          have d6 : ¬ (16 : Int) ≤ (n : Int) := by omega
          clear HE
          go_enter Try.func8, Try.ntmps8
          go_wp2_with fail
          refine (pf w hS).mono ?_
          rintro r w1 ⟨rfl, hB⟩
          clear pf
          have o0 := Lg.of (Ow.empty (f := Ri.vals) (k := 4) (blk_new w1 #[] 46)) hB.size
          have hb := below_box w1 (.cells #[] 46)
          have hB0 := below_next hB hb
          go_wp2_with (first
            | refine box_Ri0 rfl rfl ?_
            | (refine append_any Ri.vals_length rfl _ _ rfl Try.underlying22 hI hz0 hsz hby hzs o0 hB0.size (n := 0) rfl rfl (M := L) hn.out ((hS.below hB0).src Ri.vals_length Ri.vals_one Try.underlying22 lc) (by rw [hn.out]; rfl) (by omega) (by simp only [maxLen]; omega) ?_; intro a3 c3 W3 o3 k3 _; have hB3 : Below w.heap.size w W3 := hB0.trans (k3.below (fun k hk => (o0.in k hk).1) hB0.size); simp only [Nat.zero_add])
            | (refine box_Ri rfl _ rfl ⟨h, s, g, false⟩ rfl ?_; intro W4 hl4 hb4; have o4 := o3.below hb4; have hB4 := below_next hB3 hb4)
            | (refine append_any Ri.vals_length rfl _ _ rfl Try.underlying22 hI hz0 hsz hby hzs o4 hB4.size (n := n) (by simp [hn.out]) rfl (M := [⟨h, s, g, false⟩]) (m := 1) rfl (hl4.src Ri.vals_length Ri.vals_one Try.underlying22 1) rfl (by omega) (by simp only [maxLen]; omega) ?_; intro a5 c5 W5 o5 k5 _; have hB5 : Below w.heap.size w W5 := hB4.trans (k5.below (fun k hk => (o4.in k hk).1) hB4.size)))
          rw [List.nil_append] at o5
          have HM5 := HM a5 c5 W5 o5
          go_ret2
          exact ⟨HM5, hB5⟩

set_option maxHeartbeats 2000000 in
theorem rcheck_ok (h : Nat) (want : Int) (L : List Ri) (la : Option Addr) (lc : Nat) (lm : L.length ≤ 9223372036854775807) (w : World) (hS : Li Ri.vals 0 la L w) :
    Calls Try.prog 10 #[.slice la L.length lc, .int .u64 (h : Int), .int .i64 want] w fun e w' => e = .returned (.tuple #[.int .u64 (((chkR h want L).getD 0 : Nat) : Int), .int .i64 (chkE (chkR h want L))]) ∧ Below w.heap.size w w' := by
  have pv := rfind_ok h L la lc lm w hS
  obtain ⟨n, hn⟩ : ∃ n, Hid (L.length = n) := ⟨_, rfl⟩
  rw [hn.out] at pv lm ⊢
  rcases fst_cases h L with ⟨h1, _⟩ | ⟨i, x, h1, h2, _⟩
  · rw [chk_none want (val_none h1)]
    rw [h1] at pv
    simp only [placeI] at pv
    clear h1
    go_enter Try.func10, Try.ntmps10
    go_wp2_with fail
    refine pv.mono ?_
    rintro r w1 ⟨rfl, hB⟩
    clear pv
    go_wp2_with fail
    go_ret2
    exact ⟨rfl, hB⟩
  · have hv := val_of h1 h2
    rw [h1] at pv
    simp only [placeI] at pv
    have hi := (List.getElem?_eq_some_iff.1 h2).1
    rw [hn.out] at hi
    have i0 : (0 : Int) ≤ (i : Int) := by omega
    have i1 : (i : Int) < (n : Int) := by omega
    have i2 : ¬ ((i : Int) < 0) := by omega
    obtain ⟨b, o, rfl, _, hbl, hr⟩ := hS.at Ri.vals_length i x h2
    have cc : ∀ w1, Below w.heap.size w w1 → w1.cell? ⟨b, o + i * 4 + 1, none⟩ = some (.int .u64 (x.s : Int)) ∧ w1.cell? ⟨b, o + i * 4 + 2, none⟩ = some (.int .i64 x.g) ∧ w1.cell? ⟨b, o + i * 4 + 3, none⟩ = some (.bool x.r) := fun w1 hB => ⟨(hS.below hB).rng Ri.vals_length i x h2 1 _ rfl, (hS.below hB).rng Ri.vals_length i x h2 2 _ rfl, (hS.below hB).rng Ri.vals_length i x h2 3 _ rfl⟩
    clear hr
    cases h3 : x.r with
    | true =>
      rw [h3, if_pos rfl] at hv
      rw [chk_none want hv]
      rw [h3] at cc
      clear hv h1 h2 h3 hS
      go_enter Try.func10, Try.ntmps10
      go_wp2_with fail
      refine pv.mono ?_
      rintro r w1 ⟨rfl, hB⟩
      obtain ⟨c1, c2, c3⟩ := cc w1 hB
      clear pv cc
      go_wp2_with fail
      go_ret2
      exact ⟨rfl, hB⟩
    | false =>
      rw [h3, if_neg (by decide)] at hv
      have HC : Hid (chkR h want L = if giftB want = true ∧ giveB x.g want = true then some x.s else none) := chk_of want hv h2
      rw [h3] at cc
      clear hv h1 h2 h3 hS
      cases hg : giftB want with
      | false =>
        have e : chkR h want L = none := by rw [HC.out, if_neg (by rw [hg]; simp)]
        rw [e]
        have hgg : want < 1 ∨ ¬ want < 1 ∧ 7 < want := by unfold giftB at hg; simp at hg; omega
        clear HC hg
        rcases hgg with hg1 | ⟨hg1, hg2⟩
        · go_enter Try.func10, Try.ntmps10
          go_wp2_with fail
          refine pv.mono ?_
          rintro r w1 ⟨rfl, hB⟩
          obtain ⟨c1, c2, c3⟩ := cc w1 hB
          clear pv cc
          go_wp2_with fail
          go_ret2
          exact ⟨rfl, hB⟩
        · go_enter Try.func10, Try.ntmps10
          go_wp2_with fail
          refine pv.mono ?_
          rintro r w1 ⟨rfl, hB⟩
          obtain ⟨c1, c2, c3⟩ := cc w1 hB
          clear pv cc
          go_wp2_with fail
          go_ret2
          exact ⟨rfl, hB⟩
      | true =>
        have hgg : ¬ want < 1 ∧ ¬ 7 < want := by unfold giftB at hg; simp at hg; omega
        obtain ⟨hg1, hg2⟩ := hgg
        cases hq : giveB x.g want with
        | false =>
          have e : chkR h want L = none := by rw [HC.out, if_neg (by rw [hq]; simp)]
          rw [e]
          have d9 : (bits BinOp.and IntKind.i64 x.g want != want) = true := by simpa [giveB] using hq
          clear HC hq hg
          go_enter Try.func10, Try.ntmps10
          go_wp2_with fail
          refine pv.mono ?_
          rintro r w1 ⟨rfl, hB⟩
          obtain ⟨c1, c2, c3⟩ := cc w1 hB
          clear pv cc
          go_wp2_with fail
          go_ret2
          exact ⟨rfl, hB⟩
        | true =>
          have e : chkR h want L = some x.s := by rw [HC.out, if_pos ⟨hg, hq⟩]
          rw [e]
          have d9 : (bits BinOp.and IntKind.i64 x.g want != want) = false := by simpa [giveB] using hq
          clear HC hq hg
          go_enter Try.func10, Try.ntmps10
          go_wp2_with fail
          refine pv.mono ?_
          rintro r w1 ⟨rfl, hB⟩
          obtain ⟨c1, c2, c3⟩ := cc w1 hB
          clear pv cc
          go_wp2_with fail
          go_ret2
          exact ⟨rfl, hB⟩

set_option maxHeartbeats 2000000 in
theorem rrevoke_ok (h : Nat) (L : List Ri) (la : Option Addr) (lc : Nat) (lm : L.length * 32 ≤ 140737488351232) (w : World) (hS : Li Ri.vals 0 la L w) :
    Calls Try.prog 12 #[.slice la L.length lc, .int .u64 (h : Int)] w fun e w' => Revoked h L w.heap.size e w' ∧ Below w.heap.size w w' := by
  obtain ⟨iI, zI, hI, hz0, hsz, hby, hzs⟩ := infoRi
  have pv := rfind_ok h L la lc (by omega) w hS
  obtain ⟨n, hn⟩ : ∃ n, Hid (L.length = n) := ⟨_, rfl⟩
  rw [hn.out] at pv lm ⊢
  have HM : valR h L = none → ∀ w', Revoked h L w.heap.size (.returned (.tuple #[.slice none 0 0, .int .i64 160])) w' := fun hv w' => by
    have e1 : revL h L = [] := by unfold revL; rw [hv]
    have e2 : revE h L = 160 := by unfold revE; rw [hv]; rfl
    exact ⟨none, 0, by rw [e1, e2]; rfl, by rw [e1]; exact Lg.none _ _ _⟩
  rcases fst_cases h L with ⟨h1, _⟩ | ⟨i, x, h1, h2, _⟩
  · have HM' := HM (val_none h1)
    rw [h1] at pv
    simp only [placeI] at pv
    clear h1 HM
    go_enter Try.func12, Try.ntmps12
    go_wp2_with fail
    refine pv.mono ?_
    rintro r w1 ⟨rfl, hB⟩
    clear pv
    go_wp2_with fail
    go_ret2
    exact ⟨HM' w1, hB⟩
  · have hv := val_of h1 h2
    rw [h1] at pv
    simp only [placeI] at pv
    have hi := (List.getElem?_eq_some_iff.1 h2).1
    rw [hn.out] at hi
    have i0 : (0 : Int) ≤ (i : Int) := by omega
    have i1 : (i : Int) < (n : Int) := by omega
    have i2 : ¬ ((i : Int) < 0) := by omega
    obtain ⟨b, o, rfl, _, hbl, hr⟩ := hS.at Ri.vals_length i x h2
    have cc : ∀ w1, Below w.heap.size w w1 → w1.cell? ⟨b, o + i * 4 + 3, none⟩ = some (.bool x.r) := fun w1 hB => (hS.below hB).rng Ri.vals_length i x h2 3 _ rfl
    clear hr h1
    cases h3 : x.r with
    | true =>
      rw [h3, if_pos rfl] at hv
      have HM' := HM hv
      rw [h3] at cc
      clear hv h2 h3 hS HM
      go_enter Try.func12, Try.ntmps12
      go_wp2_with fail
      refine pv.mono ?_
      rintro r w1 ⟨rfl, hB⟩
      have c3 := cc w1 hB
      clear pv cc
      go_wp2_with fail
      go_ret2
      exact ⟨HM' w1, hB⟩
    | false =>
      rw [h3, if_neg (by decide)] at hv
      have HM' : ∀ a c w', Lg Ri.vals 4 46 w.heap.size a c (L.set i (offR x)) w' → Revoked h L w.heap.size (.returned (.tuple #[.slice a n c, .int .i64 0])) w' := fun a c w' hl => by
        have e1 : revL h L = L.set i (offR x) := by unfold revL; simp only [hv, h2]
        have e2 : revE h L = 0 := by unfold revE; rw [hv]; rfl
        exact ⟨a, c, by rw [e1, e2, List.length_set, hn.out], by rw [e1]; exact hl⟩
      rw [h3] at cc
      clear hv HM h3
      go_enter Try.func12, Try.ntmps12
      go_wp2_with fail
      refine pv.mono ?_
      rintro r w1 ⟨rfl, hB⟩
      have c3 := cc w1 hB
      have o0 := Lg.of (Ow.empty (f := Ri.vals) (k := 4) (blk_new w1 #[] 46)) hB.size
      have hb := below_box w1 (.cells #[] 46)
      have hB0 := below_next hB hb
      clear pv cc
      go_upto_region 5 with (go_big_may; first
        | refine box_Ri0 rfl rfl ?_
        | (refine append_any Ri.vals_length rfl _ _ rfl Try.underlying22 hI hz0 hsz hby hzs o0 hB0.size (n := 0) rfl rfl (M := L) hn.out ((hS.below hB0).src Ri.vals_length Ri.vals_one Try.underlying22 lc) (by rw [hn.out]; rfl) (by omega) (by simp only [maxLen]; omega) ?_; intro a3 c3 W3 o3 k3 _; have hB3 : Below w.heap.size w W3 := hB0.trans (k3.below (fun k hk => (o0.in k hk).1) hB0.size); simp only [Nat.zero_add]))
      try simp only [Act.put]
      rw [List.nil_append] at o3
      obtain ⟨g, rfl, hBg, hO⟩ : ∃ g, a3 = some ⟨g, 0, none⟩ ∧ w.heap.size ≤ g ∧ Ow Ri.vals 4 46 g c3 L W3 := by
        rcases o3 with ⟨_, _, rfl⟩ | h
        · simp at h2
        · exact h
      obtain ⟨C, hC, hCs⟩ := hO.blk
      rw [hn.out] at hCs
      have hof : i * 4 + 3 + 1 ≤ C.size := by omega
      clear o0 hb hB0 o3 k3 hCs hB hS
      go_wp2_with (refine store_one rfl 4 _ _ rfl (off := i * 4 + 3) (.bool true) hC (by go_simp) rfl rfl rfl sizeB1 hof ?_; intro W5 b5 k5; have hO5 := hO.cell1 Ri.vals_length (by decide) i x h2 (offR x) (r := 3) (v := .bool true) rfl (by decide) hC b5; have hB5 := below_at hB3 k5 hBg)
      have HM5 := HM' _ c3 W5 (Lg.of hO5 hBg)
      clear hO hO5 hC b5 k5
      go_ret2
      exact ⟨HM5, hB5⟩

theorem ofS_test (s : Nat) (x : Ri) : ((x.s : Int) != (s : Int)) = !ofS s x := by
  unfold ofS
  by_cases h : x.s = s
  · simp [h]
  · have : ¬ (x.s : Int) = (s : Int) := by omega
    simp [h, this]
set_option maxHeartbeats 2000000 in
theorem rdrop_ok (s : Nat) (L : List Ri) (la : Option Addr) (lc : Nat) (lm : L.length * 32 ≤ 140737488351232) (w : World) (hS : Li Ri.vals 0 la L w) :
    Calls Try.prog 16 #[.slice la L.length lc, .int .u64 (s : Int)] w fun e w' => MadeRi (dropR s L) w.heap.size e w' ∧ Below w.heap.size w w' := by
  obtain ⟨iI, zI, hI, hz0, hsz, hby, hzs⟩ := infoRi
  obtain ⟨n, hn⟩ : ∃ n, Hid (L.length = n) := ⟨_, rfl⟩
  rw [hn.out] at lm ⊢
  have o0 := Lg.of (Ow.empty (f := Ri.vals) (k := 4) (blk_new w #[] 46)) (Nat.le_refl w.heap.size)
  have hB0 := below_box w (.cells #[] 46)
  go_enter Try.func16, Try.ntmps16
  go_wp2_with (refine box_Ri0 rfl rfl ?_)
  go_loopw [5, 6] (fun ov iv wr => ∃ (j q : Nat) (a : Option Addr) (c : Nat), j ≤ n ∧ q ≤ j ∧ iv = .int .i64 j ∧ ov = .slice a q c ∧ Hid ((offL (ofS s) (L.take j)).length = q) ∧ Lg Ri.vals 4 46 w.heap.size a c (offL (ofS s) (L.take j)) wr ∧ Below w.heap.size w wr) (fun _ iv _ => n - (intOf iv).toNat)
  case atStart => exact ⟨0, 0, _, _, by omega, by omega, rfl, rfl, rfl, o0, hB0⟩
  case round =>
    clear o0 hB0
    obtain ⟨j, q, a, c, hj, hq, rfl, rfl, HQ, hG, hB⟩ := hrel
    rename World => wr
    by_cases hjn : j < n
    · have j0 : (j : Int) < (n : Int) := by omega
      have j1 : (0 : Int) ≤ (j : Int) := by omega
      obtain ⟨x, hx⟩ : ∃ k, L[j]? = some k := ⟨_, List.getElem?_eq_getElem (by rw [hn.out]; exact hjn)⟩
      obtain ⟨b, o, rfl, _, hbl, hr⟩ := (hS.below hB).at Ri.vals_length j x hx
      have c1 : wr.cell? ⟨b, o + j * 4 + 1, none⟩ = some (.int .u64 (x.s : Int)) := hr 1 _ rfl
      have ht := ofS_test s x
      cases h1 : ofS s x with
      | true =>
        have HS := off_yes (ofS s) L j x hx h1
        rw [h1] at ht
        rw [← HS] at HQ hG
        clear hr hx h1 HS
        go_wp2_with fail
        exact ⟨⟨j + 1, q, a, c, by omega, by omega, by go_num, rfl, HQ, hG, hB⟩, by simp [intOf]; omega⟩
      | false =>
        have HS : Hid (offL (ofS s) (L.take (j + 1)) = offL (ofS s) (L.take j) ++ [x]) := off_no (ofS s) L j x hx h1
        rw [h1] at ht
        clear hx h1
        go_wp2_with (first | refine load_range rfl 46 _ rfl x.vals hr rfl Try.underlying46 rfl sizeRi ?_ | (refine box_Ri rfl _ rfl x rfl ?_; intro W2 hl2 hb2; have hG2 := hG.below hb2; have hB2 := below_next hB hb2) | (refine append_any Ri.vals_length rfl _ _ rfl Try.underlying22 hI hz0 hsz hby hzs hG2 hB2.size HQ.out rfl (M := [x]) (m := 1) rfl (hl2.src Ri.vals_length Ri.vals_one Try.underlying22 1) rfl (by omega) (by simp only [maxLen]; omega) ?_; intro a3 c3 W3 hG3 hK3 _))
        have hB3 : Below w.heap.size w W3 := hB2.trans (hK3.below (fun k hk => (hG2.in k hk).1) hB2.size)
        exact ⟨⟨j + 1, q + 1, a3, c3, by omega, by omega, by go_num, rfl, by rw [HS.out, List.length_append, HQ.out]; rfl, by rw [HS.out]; exact hG3, hB3⟩, by simp [intOf]; omega⟩
    · obtain rfl : j = n := by omega
      have e : L.take j = L := List.take_of_length_le (by rw [hn.out]; omega)
      rw [e] at HQ hG
      have HM : MadeRi (dropR s L) w.heap.size (.returned (.slice a q c)) wr := ⟨a, c, by unfold dropR; rw [HQ.out], hG⟩
      clear HQ hG e
      go_wp2_with fail
      go_ret
      exact ⟨HM, hB⟩

set_option maxHeartbeats 2000000 in
theorem rmay_ok (L : List Ri) (la : Option Addr) (lc : Nat) (lm : L.length ≤ 9223372036854775807) (w : World) (hS : Li Ri.vals 0 la L w) :
    Calls Try.prog 18 #[.slice la L.length lc] w fun e w' => e = .returned (.bool (mayT L)) ∧ Below w.heap.size w w' := by
  have pf := fun h => rfind_ok h L la lc lm
  have hmt : mayT L = (decide (L.length ≤ 16) && okTo L L.length) := rfl
  obtain ⟨n, hn⟩ : ∃ n, Hid (L.length = n) := ⟨_, rfl⟩
  rw [hn.out] at pf lm hmt ⊢
  have HM : Hid (mayT L = (decide (n ≤ 16) && okTo L n)) := hmt
  clear hmt
  go_enter Try.func18, Try.ntmps18
  go_wp2_with fail
  go_loopw [3] (fun iv wr => ∃ j : Nat, j ≤ n ∧ iv = .int .i64 j ∧ Hid (okTo L j = true) ∧ Li Ri.vals 0 la L wr ∧ Below w.heap.size w wr) (fun iv _ => n - (intOf iv).toNat)
  case atStart => exact ⟨0, by omega, rfl, okTo_zero L, hS, Below.refl _ _⟩
  case round =>
    clear hS
    obtain ⟨j, hj, rfl, h0, hS, hB⟩ := hrel
    rename World => wr
    by_cases hjn : j < n
    · have j0 : (j : Int) < (n : Int) := by omega
      have j1 : (0 : Int) ≤ (j : Int) := by omega
      obtain ⟨x, hx⟩ : ∃ k, L[j]? = some k := ⟨_, List.getElem?_eq_getElem (by rw [hn.out]; exact hjn)⟩
      have HF : okR L j x = false → Hid (mayT L = false) := fun h => by show _ = _; rw [HM.out, ← hn.out, okTo_no L j x hx h]; simp
      have HT : okR L j x = true → Hid (okTo L (j + 1) = true) := fun h => by show _ = _; rw [okTo_succ L j x hx, h0.out, h]; rfl
      obtain ⟨b, o, rfl, _, hbl, hr⟩ := hS.at Ri.vals_length j x hx
      have c0 : wr.cell? ⟨b, o + j * 4, none⟩ = some (.int .u64 (x.h : Int)) := hr 0 _ rfl
      have c2 : wr.cell? ⟨b, o + j * 4 + 2, none⟩ = some (.int .i64 x.g) := hr 2 _ rfl
      have pf' := pf x.h wr hS
      clear hr hbl pf hx h0
      by_cases h1 : x.h = 0
      · have d1 : ((x.h : Int) == 0) = true := by simp [h1]
        have HF' := HF (by unfold okR; simp [h1])
        clear h1 HF HT pf'
        go_wp2_with fail
        go_ret
        exact ⟨by simp [HF'.out], hB⟩
      · have d1 : ((x.h : Int) == 0) = false := by simp [h1]
        cases h3 : giftB x.g with
        | false =>
          have HF' := HF (by unfold okR; simp [h3])
          have hgg : x.g < 1 ∨ ¬ x.g < 1 ∧ 7 < x.g := by unfold giftB at h3; simp at h3; omega
          clear h1 h3 HF HT pf'
          rcases hgg with hg1 | ⟨hg1, hg2⟩
          · go_wp2_with fail
            go_ret
            exact ⟨by simp [HF'.out], hB⟩
          · go_wp2_with fail
            go_ret
            exact ⟨by simp [HF'.out], hB⟩
        | true =>
          have hgg : ¬ x.g < 1 ∧ ¬ 7 < x.g := by unfold giftB at h3; simp at h3; omega
          obtain ⟨hg1, hg2⟩ := hgg
          by_cases h2 : fstR x.h L = some j
          · have d2 : (placeI (fstR x.h L) != (j : Int)) = false := by rw [h2]; simp [placeI]
            have HT' := HT (by unfold okR; simp [h1, h2, h3])
            clear h1 h2 h3 HF HT
            go_wp2_with fail
            refine pf'.mono ?_
            rintro r w2 ⟨rfl, hb⟩
            replace hS := hS.below hb
            replace hB := hB.trans (hb.mono hB.size)
            clear hb pf' c0 c2
            go_wp2_with fail
            exact ⟨⟨j + 1, by omega, by go_num, HT', hS, hB⟩, by simp [intOf]; omega⟩
          · have d2 : (placeI (fstR x.h L) != (j : Int)) = true := by
              simp only [bne_iff_ne, ne_eq]
              intro e
              apply h2
              cases e5 : fstR x.h L with
              | none => rw [e5] at e; simp only [placeI] at e; omega
              | some k => rw [e5] at e; simp only [placeI] at e; congr 1; omega
            have HF' := HF (by unfold okR; simp [h2])
            clear h1 h2 h3 HF HT
            go_wp2_with fail
            refine pf'.mono ?_
            rintro r w2 ⟨rfl, hb⟩
            replace hB := hB.trans (hb.mono hB.size)
            clear hb pf' c0 c2
            go_wp2_with fail
            go_ret
            exact ⟨by simp [HF'.out], hB⟩
    · obtain rfl : j = n := by omega
      have HM' := HM.out
      rw [h0.out, Bool.and_true] at HM'
      have HM2 : Hid (decide ((j : Int) ≤ 16) = mayT L) := by show _ = _; rw [HM', decide_eq_decide]; omega
      clear hS HM' h0 HM
      go_wp2_with fail
      go_ret
      exact ⟨by simp [← HM2.out], hB⟩

end Go.Proofs.Ytbefamedligoeaa
