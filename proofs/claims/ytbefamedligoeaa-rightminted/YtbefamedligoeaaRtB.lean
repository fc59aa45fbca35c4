/-
  Capabilities: what the program's find, isGift, findValid, Mint, Check, Revoke, Drop and May answer.
  Each theorem says its own conditions: a table that memory bears.
-/
import Derived.Test.YtbefamedligoeaaRtA
import Derived.Test.YtbefamedligoeaaRtM
import Derived.Test.YtbefamedligoeaaLr
namespace Go.Proofs.Ytbefamedligoeaa
set_option maxRecDepth 10000
open Go.RowKit Go.Sort
set_option linter.unusedVariables false
set_option linter.unusedSimpArgs false

set_option maxHeartbeats 1000000 in
theorem hasHd_ok (h X : Nat) (k : Ri) (w : World) (hX : Blk X #[.int .u64 (h : Int)] 23 w) : Calls Try.prog 28 #[.agg k.arr, .pointer (some ⟨X, 0, none⟩)] w fun e w' => e = .returned (.bool (isHd h k)) ∧ Below w.heap.size w w' := by
  have b1 := blk_new w k.arr 46
  have hB : Below w.heap.size w (w.alloc (.cells k.arr 46)) := below_box w _
  have hX1 := hX.below hB
  have q0 : (w.alloc (.cells k.arr 46)).cell? ⟨w.heap.size, 0, none⟩ = some (.int .u64 (k.h : Int)) := b1.cell 0 _ rfl
  have q1 := hX1.cell 0 _ rfl
  have ht : ((k.h : Int) == (h : Int)) = isHd h k := by unfold isHd; rw [Bool.eq_iff_iff]; simp; omega
  generalize isHd h k = t at ht ⊢
  clear hX hX1 b1
  go_enter Try.func28, Try.ntmps28
  go_wp2_with fail
  go_ret
  exact ⟨rfl, hB⟩
set_option maxHeartbeats 1000000 in
theorem isOfS_ok (s X : Nat) (k : Ri) (w : World) (hX : Blk X #[.int .u64 (s : Int)] 23 w) : Calls Try.prog 26 #[.agg k.arr, .pointer (some ⟨X, 0, none⟩)] w fun e w' => e = .returned (.bool (ofS s k)) ∧ Below w.heap.size w w' := by
  have b1 := blk_new w k.arr 46
  have hB : Below w.heap.size w (w.alloc (.cells k.arr 46)) := below_box w _
  have hX1 := hX.below hB
  have q0 : (w.alloc (.cells k.arr 46)).cell? ⟨w.heap.size, 1, none⟩ = some (.int .u64 (k.s : Int)) := b1.cell 1 _ rfl
  have q1 := hX1.cell 0 _ rfl
  have ht : ((k.s : Int) == (s : Int)) = ofS s k := by unfold ofS; rw [Bool.eq_iff_iff]; simp; omega
  generalize ofS s k = t at ht ⊢
  clear hX hX1 b1
  go_enter Try.func26, Try.ntmps26
  go_wp2_with fail
  go_ret
  exact ⟨rfl, hB⟩
theorem entFind : Enters 28 := fun args w => by kernel_rfl
theorem entDrop : Enters 26 := fun args w => by kernel_rfl
theorem ix_place {q : Ri → Bool} {L : List Ri} {e : Ending} (h : IxRi q L e) : e = .returned (.int .i64 (placeI (L.findIdx? q))) := by
  rcases h with ⟨j, k, rfl, h1, h2, h3⟩ | ⟨rfl, h1⟩
  · rw [first_at q L j k h1 h2 h3]; rfl
  · rw [first_no q L h1]; rfl

set_option maxHeartbeats 1000000 in
theorem find_ok (h : Nat) (L : List Ri) (la : Option Addr) (lc : Nat) (lm : L.length ≤ 9223372036854775807) (w : World) (hS : Li Ri.vals 0 la L w) :
    Calls Try.prog 20 #[.slice la L.length lc, .int .u64 (h : Int)] w fun e w' => e = .returned (.int .i64 (placeI (fstR h L))) ∧ Below w.heap.size w w' := by
  have b1 := blk_new w #[.int .u64 (h : Int)] 23
  have hB : Below w.heap.size w (w.alloc (.cells #[.int .u64 (h : Int)] 23)) := below_box w _
  have hmf : ∀ (fn : Fn) (first cap : Array Value) (w : World), (Instr.makeFunc fn first cap).run Try.prog w = .ok (.func fn first cap) w := fun _ _ _ _ => rfl
  have pi := fun X w h1 h2 => ixr_ok 28 (.pointer (some ⟨X, 0, none⟩)) (isHd h) entFind (fun w => Blk X #[.int .u64 (h : Int)] 23 w) (fun w w' h hb => h.below hb) L (fun k w hw => hasHd_ok h X k w hw) la lc lm w h1 h2
  generalize L.length = n at pi ⊢
  go_enter Try.func20, Try.ntmps20
  go_wp2_with fail
  refine (pi w.heap.size _ (hS.below hB) b1).mono ?_
  rintro r w1 ⟨hF, hb⟩
  obtain rfl := ix_place hF
  replace hB := below_next hB hb
  change Below w.heap.size w w1 at hB
  clear pi hF hb b1
  go_wp2_with fail
  go_ret
  exact ⟨rfl, hB⟩

theorem isGift_ok (g : Int) (w : World) : Calls Try.prog 21 #[.int .i64 g] w fun e w' => e = .returned (.bool (giftB g)) ∧ w' = w := by
  unfold giftB
  by_cases h1 : 1 ≤ g
  · have d1 : decide (1 ≤ g) = true := by simpa using h1
    obtain ⟨t, ht⟩ : ∃ t, decide (g ≤ 7) = t := ⟨_, rfl⟩
    rw [d1, ht]
    clear h1
    go_enter Try.func21, Try.ntmps21
    go_wp2_with fail
    go_ret
    simp
  · have d1 : decide (1 ≤ g) = false := by simpa using h1
    rw [d1]
    clear h1
    go_enter Try.func21, Try.ntmps21
    go_wp2_with fail
    go_ret
    simp

set_option maxHeartbeats 1000000 in
theorem findValid_ok (h : Nat) (L : List Ri) (la : Option Addr) (lc : Nat) (lm : L.length ≤ 9223372036854775807) (w : World) (hS : Li Ri.vals 0 la L w) :
    Calls Try.prog 24 #[.slice la L.length lc, .int .u64 (h : Int)] w fun e w' => e = .returned (.int .i64 (placeI (valR h L))) ∧ Below w.heap.size w w' := by
  have pf := find_ok h L la lc lm w hS
  rcases fst_cases h L with ⟨h1, _⟩ | ⟨i, x, h1, h2, _⟩
  · rw [val_none h1]
    rw [h1] at pf
    generalize L.length = n at pf ⊢
    clear hS
    simp only [placeI] at pf ⊢
    go_enter Try.func24, Try.ntmps24
    go_wp2_with fail
    refine pf.mono ?_
    rintro r w1 ⟨rfl, hB⟩
    clear pf
    go_wp2_with fail
    go_ret
    exact ⟨rfl, hB⟩
  · have HV : Hid (valR h L = if x.r then none else some i) := val_of h1 h2
    rw [h1] at pf
    have hi := (List.getElem?_eq_some_iff.1 h2).1
    obtain ⟨b, o, rfl, _, hbl, hr⟩ := hS.at Ri.vals_length i x h2
    obtain ⟨n, hn⟩ : ∃ n, Hid (L.length = n) := ⟨_, rfl⟩
    rw [hn.out] at pf lm hi ⊢
    have i0 : (0 : Int) ≤ (i : Int) := by omega
    have i1 : (i : Int) < (n : Int) := by omega
    simp only [placeI] at pf
    cases hr3 : x.r with
    | true =>
      rw [HV.out, hr3, if_pos rfl]
      clear HV
      go_enter Try.func24, Try.ntmps24
      go_wp2_with fail
      refine pf.mono ?_
      rintro r w1 ⟨rfl, hB⟩
      have c3 : w1.cell? ⟨b, o + i * 4 + 3, none⟩ = some (.bool x.r) := (hS.below hB).rng Ri.vals_length i x h2 3 _ rfl
      rw [hr3] at c3
      clear pf hr h2 h1 hS hr3
      go_wp2_with fail
      go_ret
      exact ⟨rfl, hB⟩
    | false =>
      rw [HV.out, hr3, if_neg (by decide)]
      clear HV
      go_enter Try.func24, Try.ntmps24
      go_wp2_with fail
      refine pf.mono ?_
      rintro r w1 ⟨rfl, hB⟩
      have c3 : w1.cell? ⟨b, o + i * 4 + 3, none⟩ = some (.bool x.r) := (hS.below hB).rng Ri.vals_length i x h2 3 _ rfl
      rw [hr3] at c3
      clear pf hr h2 h1 hS hr3
      go_wp2_with fail
      go_ret
      exact ⟨rfl, hB⟩

def Minted (h s : Nat) (g : Int) (L : List Ri) (B : Nat) (e : Ending) (w' : World) : Prop := ∃ a c, e = .returned (.tuple #[.slice a (mintL h s g L).length c, .int .i64 (mintE h g L)]) ∧ Lg Ri.vals 4 46 B a c (mintL h s g L) w'
theorem minted_no {h s : Nat} {g : Int} {L : List Ri} {B : Nat} {w' : World} {c : Int} (h1 : mintE h g L = c) (h0 : c ≠ 0) : Minted h s g L B (.returned (.tuple #[.slice none 0 0, .int .i64 c])) w' := by
  have e : mintL h s g L = [] := by unfold mintL; rw [h1, if_neg h0]
  refine ⟨none, 0, by rw [e, h1]; rfl, by rw [e]; exact Lg.none _ _ _⟩

set_option maxHeartbeats 2000000 in
theorem mint_ok (h s : Nat) (g : Int) (L : List Ri) (la : Option Addr) (lc : Nat) (lm : L.length * 32 ≤ 140737488351232) (w : World) (hS : Li Ri.vals 0 la L w) :
    Calls Try.prog 7 #[.slice la L.length lc, .int .u64 (h : Int), .int .u64 (s : Int), .int .i64 g] w fun e w' => Minted h s g L w.heap.size e w' ∧ Below w.heap.size w w' := by
  obtain ⟨iI, zI, hI, hz0, hsz, hby, hzs⟩ := infoRi
  have pf := find_ok h L la lc (by omega)
  have pg := isGift_ok g
  have pc := rclone_ok L la lc (by omega)
  obtain ⟨n, hn⟩ : ∃ n, Hid (L.length = n) := ⟨_, rfl⟩
  rw [hn.out] at pf pc lm ⊢
  by_cases h0 : h = 0
  · have HM : Minted h s g L w.heap.size (.returned (.tuple #[.slice none 0 0, .int .i64 1])) w := minted_no (by unfold mintE; rw [if_pos (.inl h0)]) (by decide)
    have d0 : ((h : Int) == 0) = true := by simp [h0]
    clear h0 pf pg pc
    go_enter Try.func7, Try.ntmps7
    go_wp2_with fail
    go_ret2
    exact ⟨HM, Below.refl _ _⟩
  · have d0 : ((h : Int) == 0) = false := by simp [h0]
    rcases fst_cases h L with ⟨h1, _⟩ | ⟨i, x, h1, h2, _⟩
    rotate_left
    · have HM : ∀ w', Minted h s g L w.heap.size (.returned (.tuple #[.slice none 0 0, .int .i64 1])) w' := fun w' => minted_no (by unfold mintE; rw [if_pos (.inr (.inl (by rw [h1]; rfl)))]) (by decide)
      rw [h1] at pf
      simp only [placeI] at pf
      have i0 : (0 : Int) ≤ (i : Int) := by omega
      clear h0 h1 h2 pg pc
      go_enter Try.func7, Try.ntmps7
      go_wp2_with fail
      refine (pf w hS).mono ?_
      rintro r w1 ⟨rfl, hB⟩
      clear pf
      go_wp2_with fail
      go_ret2
      exact ⟨HM w1, hB⟩
    · rw [h1] at pf
      simp only [placeI] at pf
      cases hg : giftB g with
      | false =>
        have HM : ∀ w', Minted h s g L w.heap.size (.returned (.tuple #[.slice none 0 0, .int .i64 1])) w' := fun w' => minted_no (by unfold mintE; rw [if_pos (.inr (.inr hg))]) (by decide)
        rw [hg] at pg
        clear h0 h1 pc
        go_enter Try.func7, Try.ntmps7
        go_wp2_with fail
        refine (pf w hS).mono ?_
        rintro r w1 ⟨rfl, hB⟩
        clear pf
        go_wp2_with fail
        refine (pg w1).mono ?_
        rintro r w2 ⟨rfl, e2⟩
        subst w2
        clear pg
        go_wp2_with fail
        go_ret2
        exact ⟨HM w1, hB⟩
      | true =>
        rw [hg] at pg
        have HE : Hid (mintE h g L = if 16 ≤ n then 161 else 0) := by
          show mintE h g L = _
          unfold mintE
          rw [if_neg, hn.out]
          rintro (h | h | h)
          · exact h0 h
          · rw [h1] at h; cases h
          · rw [hg] at h; cases h
        clear h1 h0 hg
        by_cases hn16 : 16 ≤ n
        · have HM : ∀ w', Minted h s g L w.heap.size (.returned (.tuple #[.slice none 0 0, .int .i64 161])) w' := fun w' => minted_no (by rw [HE.out, if_pos hn16]) (by decide)
          have d6 : (16 : Int) ≤ (n : Int) := by omega
          clear pc HE
          go_enter Try.func7, Try.ntmps7
          go_wp2_with fail
          refine (pf w hS).mono ?_
          rintro r w1 ⟨rfl, hB⟩
          clear pf
          go_wp2_with fail
          refine (pg w1).mono ?_
          rintro r w2 ⟨rfl, e2⟩
          subst w2
          clear pg
          go_wp2_with fail
          go_ret2
          exact ⟨HM w1, hB⟩
        · have HM : ∀ a c w', Lg Ri.vals 4 46 w.heap.size a c (L ++ [⟨h, s, g, false⟩]) w' → Minted h s g L w.heap.size (.returned (.tuple #[.slice a (n + 1) c, .int .i64 0])) w' := fun a c w' hl => by
            have e1 : mintE h g L = 0 := by rw [HE.out, if_neg hn16]
            have e2 : mintL h s g L = L ++ [⟨h, s, g, false⟩] := by unfold mintL; rw [e1, if_pos rfl]
            refine ⟨a, c, ?_, ?_⟩
            · rw [e1, e2, List.length_append, hn.out]; rfl
            · rw [e2]; exact hl
          have d6 : ¬ (16 : Int) ≤ (n : Int) := by omega
          clear HE
          go_enter Try.func7, Try.ntmps7
          go_wp2_with fail
          refine (pf w hS).mono ?_
          rintro r w1 ⟨rfl, hB⟩
          clear pf
          go_wp2_with fail
          refine (pg w1).mono ?_
          rintro r w2 ⟨rfl, e2⟩
          subst w2
          clear pg
          go_wp2_with fail
          refine (pc w1 (hS.below hB)).mono ?_
          rintro r w2 ⟨⟨a, c, rfl, hG⟩, hb⟩
          replace hG := hG.mono hB.size
          replace hB := below_next hB hb
          rw [hn.out]
          clear pc hb
          go_wp2_with (first | (refine box_Ri rfl _ rfl ⟨h, s, g, false⟩ rfl ?_; intro W2 hl2 hb2; have hG2 := hG.below hb2; have hB2 := below_next hB hb2) | (refine append_any Ri.vals_length rfl _ _ rfl Try.underlying22 hI hz0 hsz hby hzs hG2 hB2.size hn.out rfl (M := [⟨h, s, g, false⟩]) (m := 1) rfl (hl2.src Ri.vals_length Ri.vals_one Try.underlying22 1) rfl (by omega) (by simp only [maxLen]; omega) ?_; intro a3 c3 W3 hG3 hK3 _))
          have hB3 : Below w.heap.size w W3 := hB2.trans (hK3.below (fun k hk => (hG2.in k hk).1) hB2.size)
          have HM3 := HM a3 c3 W3 hG3
          go_ret2
          exact ⟨HM3, hB3⟩

set_option maxHeartbeats 2000000 in
theorem check_ok (h : Nat) (want : Int) (L : List Ri) (la : Option Addr) (lc : Nat) (lm : L.length ≤ 9223372036854775807) (w : World) (hS : Li Ri.vals 0 la L w) :
    Calls Try.prog 9 #[.slice la L.length lc, .int .u64 (h : Int), .int .i64 want] w fun e w' => e = .returned (.tuple #[.int .u64 (((chkR h want L).getD 0 : Nat) : Int), .int .i64 (chkE (chkR h want L))]) ∧ Below w.heap.size w w' := by
  have pv := findValid_ok h L la lc lm w hS
  have pg := isGift_ok want
  obtain ⟨n, hn⟩ : ∃ n, Hid (L.length = n) := ⟨_, rfl⟩
  rw [hn.out] at pv lm ⊢
  cases hv : valR h L with
  | none =>
    rw [chk_none want hv]
    rw [hv] at pv
    simp only [placeI] at pv
    clear pg hv
    go_enter Try.func9, Try.ntmps9
    go_wp2_with fail
    refine pv.mono ?_
    rintro r w1 ⟨rfl, hB⟩
    clear pv
    go_wp2_with fail
    go_ret2
    exact ⟨rfl, hB⟩
  | some i =>
    obtain ⟨_, x, h2, _⟩ := val_some hv
    have HC : Hid (chkR h want L = if giftB want = true ∧ giveB x.g want = true then some x.s else none) := chk_of want hv h2
    rw [hv] at pv
    simp only [placeI] at pv
    have hi := (List.getElem?_eq_some_iff.1 h2).1
    rw [hn.out] at hi
    have i0 : (0 : Int) ≤ (i : Int) := by omega
    have i1 : (i : Int) < (n : Int) := by omega
    have i2 : ¬ ((i : Int) < 0) := by omega
    obtain ⟨b, o, rfl, _, hbl, hr⟩ := hS.at Ri.vals_length i x h2
    clear hv hr
    cases hg : giftB want with
    | false =>
      have e : chkR h want L = none := by rw [HC.out, if_neg (by rw [hg]; simp)]
      rw [e]
      rw [hg] at pg
      clear HC h2
      go_enter Try.func9, Try.ntmps9
      go_wp2_with fail
      refine pv.mono ?_
      rintro r w1 ⟨rfl, hB⟩
      clear pv
      go_wp2_with fail
      refine (pg w1).mono ?_
      rintro r w2 ⟨rfl, e2⟩
      subst w2
      clear pg
      go_wp2_with fail
      go_ret2
      exact ⟨rfl, hB⟩
    | true =>
      rw [hg] at pg
      cases hq : giveB x.g want with
      | false =>
        have e : chkR h want L = none := by rw [HC.out, if_neg (by rw [hq]; simp)]
        rw [e]
        have d9 : (bits BinOp.and IntKind.i64 x.g want != want) = true := by simpa [giveB] using hq
        clear HC hq hg
        go_enter Try.func9, Try.ntmps9
        go_wp2_with fail
        refine pv.mono ?_
        rintro r w1 ⟨rfl, hB⟩
        have c2 : w1.cell? ⟨b, o + i * 4 + 2, none⟩ = some (.int .i64 x.g) := (hS.below hB).rng Ri.vals_length i x h2 2 _ rfl
        clear pv h2 hS
        go_wp2_with fail
        refine (pg w1).mono ?_
        rintro r w2 ⟨rfl, e2⟩
        subst w2
        clear pg
        go_wp2_with fail
        go_ret2
        exact ⟨rfl, hB⟩
      | true =>
        have e : chkR h want L = some x.s := by rw [HC.out, if_pos ⟨hg, hq⟩]
        rw [e]
        have d9 : (bits BinOp.and IntKind.i64 x.g want != want) = false := by simpa [giveB] using hq
        clear HC hq hg
        go_enter Try.func9, Try.ntmps9
        go_wp2_with fail
        refine pv.mono ?_
        rintro r w1 ⟨rfl, hB⟩
        have c1 : w1.cell? ⟨b, o + i * 4 + 1, none⟩ = some (.int .u64 (x.s : Int)) := (hS.below hB).rng Ri.vals_length i x h2 1 _ rfl
        have c2 : w1.cell? ⟨b, o + i * 4 + 2, none⟩ = some (.int .i64 x.g) := (hS.below hB).rng Ri.vals_length i x h2 2 _ rfl
        clear pv h2 hS
        go_wp2_with fail
        refine (pg w1).mono ?_
        rintro r w2 ⟨rfl, e2⟩
        subst w2
        clear pg
        go_wp2_with fail
        go_ret2
        exact ⟨rfl, hB⟩

def Revoked (h : Nat) (L : List Ri) (B : Nat) (e : Ending) (w' : World) : Prop := ∃ a c, e = .returned (.tuple #[.slice a (revL h L).length c, .int .i64 (revE h L)]) ∧ Lg Ri.vals 4 46 B a c (revL h L) w'
theorem sizeB1 : (Try.prog.info? 4).map (·.size) = some 1 := by kernel_rfl

set_option maxHeartbeats 2000000 in
theorem revoke_ok (h : Nat) (L : List Ri) (la : Option Addr) (lc : Nat) (lm : L.length * 32 ≤ 140737488351232) (w : World) (hS : Li Ri.vals 0 la L w) :
    Calls Try.prog 11 #[.slice la L.length lc, .int .u64 (h : Int)] w fun e w' => Revoked h L w.heap.size e w' ∧ Below w.heap.size w w' := by
  have pv := findValid_ok h L la lc (by omega) w hS
  have pc := rclone_ok L la lc (by omega)
  obtain ⟨n, hn⟩ : ∃ n, Hid (L.length = n) := ⟨_, rfl⟩
  rw [hn.out] at pv lm pc ⊢
  cases hv : valR h L with
  | none =>
    have HM : ∀ w', Revoked h L w.heap.size (.returned (.tuple #[.slice none 0 0, .int .i64 160])) w' := fun w' => by
      have e1 : revL h L = [] := by unfold revL; rw [hv]
      have e2 : revE h L = 160 := by unfold revE; rw [hv]; rfl
      exact ⟨none, 0, by rw [e1, e2]; rfl, by rw [e1]; exact Lg.none _ _ _⟩
    rw [hv] at pv
    simp only [placeI] at pv
    clear pc hv
    go_enter Try.func11, Try.ntmps11
    go_wp2_with fail
    refine pv.mono ?_
    rintro r w1 ⟨rfl, hB⟩
    clear pv
    go_wp2_with fail
    go_ret2
    exact ⟨HM w1, hB⟩
  | some i =>
    obtain ⟨_, x, h2, _⟩ := val_some hv
    have HM : ∀ a c w', Lg Ri.vals 4 46 w.heap.size a c (L.set i (offR x)) w' → Revoked h L w.heap.size (.returned (.tuple #[.slice a n c, .int .i64 0])) w' := fun a c w' hl => by
      have e1 : revL h L = L.set i (offR x) := by unfold revL; simp only [hv, h2]
      have e2 : revE h L = 0 := by unfold revE; rw [hv]; rfl
      exact ⟨a, c, by rw [e1, e2, List.length_set, hn.out], by rw [e1]; exact hl⟩
    rw [hv] at pv
    simp only [placeI] at pv
    have hi := (List.getElem?_eq_some_iff.1 h2).1
    rw [hn.out] at hi
    have i0 : (0 : Int) ≤ (i : Int) := by omega
    have i1 : (i : Int) < (n : Int) := by omega
    have i2 : ¬ ((i : Int) < 0) := by omega
    clear hv
    go_enter Try.func11, Try.ntmps11
    go_wp2_with fail
    refine pv.mono ?_
    rintro r w1 ⟨rfl, hB⟩
    clear pv
    go_wp2_with fail
    refine (pc w1 (hS.below hB)).mono ?_
    rintro r w2 ⟨⟨a, c, rfl, hG⟩, hb⟩
    replace hG := hG.mono hB.size
    replace hB := below_next hB hb
    obtain ⟨g, rfl, hBg, hO⟩ : ∃ g, a = some ⟨g, 0, none⟩ ∧ w.heap.size ≤ g ∧ Ow Ri.vals 4 46 g c L w2 := by
      rcases hG with ⟨_, _, rfl⟩ | h
      · simp at h2
      · exact h
    obtain ⟨C, hC, hCs⟩ := hO.blk
    rw [hn.out] at hCs ⊢
    have hof : i * 4 + 3 + 1 ≤ C.size := by omega
    clear pc hb hG hCs
    go_wp2_with (refine store_one rfl 4 _ _ rfl (off := i * 4 + 3) (.bool true) hC (by go_simp) rfl rfl rfl sizeB1 hof ?_; intro W3 b3 k3; have hO3 := hO.cell1 Ri.vals_length (by decide) i x h2 (offR x) (r := 3) (v := .bool true) rfl (by decide) hC b3; have hB3 := below_at hB k3 hBg)
    have HM3 := HM _ c W3 (Lg.of hO3 hBg)
    clear hO hO3 hC b3 k3
    go_ret2
    exact ⟨HM3, hB3⟩

set_option maxHeartbeats 2000000 in
theorem drop_ok (s : Nat) (L : List Ri) (la : Option Addr) (lc : Nat) (lm : L.length * 32 ≤ 140737488351232) (w : World) (hS : Li Ri.vals 0 la L w) :
    Calls Try.prog 15 #[.slice la L.length lc, .int .u64 (s : Int)] w fun e w' => MadeRi (dropR s L) w.heap.size e w' ∧ Below w.heap.size w w' := by
  have b1 := blk_new w #[.int .u64 (s : Int)] 23
  have hB : Below w.heap.size w (w.alloc (.cells #[.int .u64 (s : Int)] 23)) := below_box w _
  have hmf : ∀ (fn : Fn) (first cap : Array Value) (w : World), (Instr.makeFunc fn first cap).run Try.prog w = .ok (.func fn first cap) w := fun _ _ _ _ => rfl
  have pc := rclone_ok L la lc (by omega)
  have pd := fun X a c w h1 h2 h3 => delr_ok 26 X #[.int .u64 (s : Int)] 23 (ofS s) entDrop (fun k w hw => isOfS_ok s X k w hw) L (X + 1) a c w h1 h2 h3
  generalize hn : L.length = n at pc pd ⊢
  replace hn : Hid (L.length = n) := hn
  go_enter Try.func15, Try.ntmps15
  go_wp2_with fail
  have hz : (w.alloc (.cells #[.int .u64 (s : Int)] 23)).heap.size = w.heap.size + 1 := by simp
  refine (pc _ (hS.below hB)).mono ?_
  rintro r w1 ⟨⟨a, c, rfl, hG⟩, hb⟩
  rw [hz] at hG
  replace b1 := b1.below hb
  replace hB := below_next hB hb
  have hne : w.heap.size ∉ blkOf a := fun hm => by have := (hG.in _ hm).1; omega
  rw [hn.out]
  clear pc hb hz
  go_wp2_with fail
  refine (pd w.heap.size a c w1 hG b1 hne).mono ?_
  rintro r w2 ⟨⟨rfl, hG2⟩, hk⟩
  have hB2 : Below w.heap.size w w2 := hB.trans (hk.below (fun k hk => by have := (hG.in k hk).1; omega) hB.size)
  have HM : MadeRi (dropR s L) w.heap.size (.returned (.slice a (offL (ofS s) L).length c)) w2 := ⟨a, c, rfl, hG2.mono (by omega)⟩
  clear pd hG hG2 hk b1
  go_wp2_with fail
  go_ret
  exact ⟨HM, hB2⟩

set_option maxHeartbeats 2000000 in
theorem may_ok (L : List Ri) (la : Option Addr) (lc : Nat) (lm : L.length ≤ 9223372036854775807) (w : World) (hS : Li Ri.vals 0 la L w) :
    Calls Try.prog 17 #[.slice la L.length lc] w fun e w' => e = .returned (.bool (mayT L)) ∧ Below w.heap.size w w' := by
  have pf := fun h => find_ok h L la lc lm
  have hle : L.length ≤ 16 → mayT L = okTo L L.length := fun h => by unfold mayT; rw [decide_eq_true h]; rfl
  obtain ⟨n, hn⟩ : ∃ n, Hid (L.length = n) := ⟨_, rfl⟩
  rw [hn.out] at pf lm hle ⊢
  by_cases h6 : 16 < n
  · have e : mayT L = false := by unfold mayT; rw [decide_eq_false (by rw [hn.out]; omega)]; rfl
    rw [e]
    have d6 : (16 : Int) < (n : Int) := by omega
    clear pf
    go_enter Try.func17, Try.ntmps17
    go_wp2_with fail
    go_ret
    exact ⟨rfl, Below.refl _ _⟩
  · have HM : Hid (mayT L = okTo L n) := hle (by omega)
    rw [HM.out]
    have d6 : ¬ (16 : Int) < (n : Int) := by omega
    clear hle HM
    go_enter Try.func17, Try.ntmps17
    go_wp2_with fail
    clear d6
    go_loopw [10] (fun iv wr => ∃ j : Nat, j ≤ n ∧ iv = .int .i64 j ∧ Hid (okTo L j = true) ∧ Li Ri.vals 0 la L wr ∧ Below w.heap.size w wr) (fun iv _ => n - (intOf iv).toNat)
    case atStart => exact ⟨0, by omega, rfl, okTo_zero L, hS, Below.refl _ _⟩
    case round =>
      clear hS
      obtain ⟨j, hj, rfl, h0, hS, hB⟩ := hrel
      rename World => wr
      by_cases hjn : j < n
      · have j0 : (j : Int) < (n : Int) := by omega
        have j1 : (0 : Int) ≤ (j : Int) := by omega
        obtain ⟨x, hx⟩ : ∃ k, L[j]? = some k := ⟨_, List.getElem?_eq_getElem (by rw [hn.out]; exact hjn)⟩
        have HF : okR L j x = false → Hid (okTo L n = false) := fun h => by show _ = _; rw [← hn.out]; exact okTo_no L j x hx h
        have HT : okR L j x = true → Hid (okTo L (j + 1) = true) := fun h => by show _ = _; rw [okTo_succ L j x hx, h0.out, h]; rfl
        obtain ⟨b, o, rfl, _, hbl, hr⟩ := hS.at Ri.vals_length j x hx
        have b1 := blk_new wr x.arr 46
        have hb := below_box wr (.cells x.arr 46)
        have pg := isGift_ok x.g
        have pf' := pf x.h
        go_upto_region 6 with (go_big_may; first | refine load_range rfl 46 _ rfl x.vals hr rfl Try.underlying46 rfl sizeRi ?_ | refine alloc_zero zeroRi rfl rfl ?_ | refine store_new rfl 46 _ _ rfl (cells := x.arr) rfl rfl sizeRi rfl x.arr_one ?_)
        try simp only [Act.put]
        generalize wr.alloc (Obj.cells x.arr 46) = W1 at b1 hb ⊢
        replace hS := hS.below hb
        replace hB := hB.trans (hb.mono hB.size)
        have c0 : W1.cell? ⟨wr.heap.size, 0, none⟩ = some (.int .u64 (x.h : Int)) := b1.cell 0 _ rfl
        clear hb hr hbl
        generalize wr.heap.size = z at b1 c0 ⊢
        clear pf
        by_cases h1 : x.h = 0
        · have d1 : ((x.h : Int) == 0) = true := by simp [h1]
          have HF' := HF (by unfold okR; simp [h1])
          clear h1 HF HT pg pf' hx h0 b1
          go_wp2_with fail
          go_ret
          exact ⟨by simp [HF'.out], hB⟩
        · have d1 : ((x.h : Int) == 0) = false := by simp [h1]
          go_wp2_with fail
          refine (pf' W1 hS).mono ?_
          rintro r w2 ⟨rfl, hb⟩
          have c2 : w2.cell? ⟨z, 2, none⟩ = some (.int .i64 x.g) := (b1.below hb).cell 2 _ rfl
          replace hS := hS.below hb
          replace hB := hB.trans (hb.mono hB.size)
          clear hb pf' b1 c0
          by_cases h2 : fstR x.h L = some j
          · have d2 : (placeI (fstR x.h L) != (j : Int)) = false := by rw [h2]; simp [placeI]
            cases h3 : giftB x.g with
            | true =>
              have HT' := HT (by unfold okR; simp [h1, h2, h3])
              rw [h3] at pg
              clear h1 h2 h3 HF HT hx h0
              go_wp2_with fail
              refine (pg w2).mono ?_
              rintro r w3 ⟨rfl, e3⟩
              subst w3
              clear pg
              go_wp2_with fail
              exact ⟨⟨j + 1, by omega, by go_num, HT', hS, hB⟩, by simp [intOf]; omega⟩
            | false =>
              have HF' := HF (by unfold okR; simp [h3])
              rw [h3] at pg
              clear h1 h2 h3 HF HT hx h0
              go_wp2_with fail
              refine (pg w2).mono ?_
              rintro r w3 ⟨rfl, e3⟩
              subst w3
              clear pg
              go_wp2_with fail
              go_ret
              exact ⟨by simp [HF'.out], hB⟩
          · have d2 : (placeI (fstR x.h L) != (j : Int)) = true := by
              simp only [bne_iff_ne, ne_eq]
              intro e
              apply h2
              cases e5 : fstR x.h L with
              | none => rw [e5] at e; simp only [placeI] at e; omega
              | some k => rw [e5] at e; simp only [placeI] at e; congr 1; omega
            have HF' := HF (by unfold okR; simp [h2])
            clear h1 h2 HF HT hx h0 pg
            go_wp2_with fail
            go_ret
            exact ⟨by simp [HF'.out], hB⟩
      · obtain rfl : j = n := by omega
        clear hS
        go_wp2_with fail
        go_ret
        exact ⟨by simp [h0.out], hB⟩

end Go.Proofs.Ytbefamedligoeaa
