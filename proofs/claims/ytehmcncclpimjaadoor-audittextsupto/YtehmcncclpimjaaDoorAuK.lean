/-
  The document's call: what a quoted text says.
  The text has at most 2147483648 bytes.
-/
import Derived.Test.YtehmcncclpimjaaDoorAuJ
namespace Go.Proofs.YtehmcncclpimjaaDoor
set_option maxRecDepth 10000
set_option linter.unusedSimpArgs false
open Go.RowKit Go.Sort
set_option linter.unusedVariables false
set_option linter.unusedSimpArgs false

/- What is read is what was written, where something was. -/
def Reads (s : List UInt8) (acc rest : List UInt8) : Prop := ∀ l, quo l = s → ∃ l', l = acc ++ l' ∧ quo l' = rest
theorem Reads.start (s : List UInt8) : Reads s [] s := fun l h => ⟨l, rfl, h⟩
theorem Reads.plain {s acc rest : List UInt8} {x : UInt8} (h : Reads s acc (x :: rest)) (hx : x ≠ 37) : Reads s (acc ++ [x]) rest := fun l hl => by
  obtain ⟨l', h1, h2⟩ := h l hl
  obtain ⟨l2, h3, h4⟩ := quo_head hx h2
  exact ⟨l2, by rw [h1, h3]; simp, h4⟩
theorem Reads.pct {s acc rest : List UInt8} {a b : UInt8} {i k : Nat} (h : Reads s acc (37 :: a :: b :: rest)) (hi : i < 16) (hk : k < 16) (ha : hex i = a) (hb : hex k = b) : Reads s (acc ++ [UInt8.ofNat (16 * i + k)]) rest := fun l hl => by
  obtain ⟨l', h1, h2⟩ := h l hl
  obtain ⟨y, l2, h3, h4⟩ := quo_pct h2
  simp only [List.cons.injEq] at h4
  obtain ⟨e1, e2, e3⟩ := h4
  have q1 := hex_inj (ha.trans e1)
  have q2 := hex_inj (hb.trans e2)
  have hy := y.toNat_lt
  have e : UInt8.ofNat (16 * i + k) = y := by
    apply UInt8.toNat_inj.1
    rw [UInt8.toNat_ofNat']
    omega
  exact ⟨l2, by rw [h1, h3, e]; simp, e3.symm⟩
theorem Reads.no {s acc rest : List UInt8} (h : Reads s acc (37 :: rest)) (hn : ∀ y : UInt8, ∀ r, rest ≠ hex (y.toNat / 16) :: hex (y.toNat % 16) :: r) : ∀ l, quo l ≠ s := fun l hl => by
  obtain ⟨l', _, h2⟩ := h l hl
  obtain ⟨y, l2, _, h4⟩ := quo_pct h2
  exact hn y _ h4
theorem Reads.done {s acc : List UInt8} (h : Reads s acc []) : ∀ l, quo l = s → acc = l := fun l hl => by
  obtain ⟨l', h1, h2⟩ := h l hl
  cases l' with
  | nil => rw [h1, List.append_nil]
  | cons y l' => exact absurd h2 (by rw [quo_cons]; exact fun e => quo1_ne y (List.append_eq_nil_iff.1 e).1)
def CallIs (s : ByteArray) (e : Ending) : Prop := ∃ (x : List UInt8) (ok : Bool), e = .returned (.tuple #[.string (strB x), .bool ok]) ∧ x.length ≤ s.size ∧ ∀ l, quo l = bL s → x = l ∧ ok = true

set_option maxHeartbeats 8000000 in
theorem call_ok (s : ByteArray) (hs : s.size ≤ 2147483648) (w : World) : Calls Tryd.prog 31 #[.string s] w fun e w' => CallIs s e ∧ Below w.heap.size w w' := by
  obtain ⟨iI, zI, hI, hz0, hsz, hby, hzs⟩ := info8
  have hl := bL_len s
  obtain ⟨n, hn⟩ : ∃ n, Hid (s.size = n) := ⟨_, rfl⟩
  rw [hn.out] at hs hl
  have hns : (s.size : Int) = (n : Int) := by rw [hn.out]
  have hB0 : Below w.heap.size w (w.alloc (.cells #[] 5)) := below_box w _
  have hG0 : Lg f8 1 5 w.heap.size (some ⟨w.heap.size, 0, none⟩) 0 [] (w.alloc (.cells #[] 5)) := Lg.of (Ow.empty (blk_new w #[] 5)) (Nat.le_refl _)
  go_enter Tryd.func31, Tryd.ntmps31
  go_upto_region 2 with fail
  try simp only [Act.put, List.setIfInBounds_toArray, List.set_cons_zero, List.set_cons_succ]
  generalize w.alloc (.cells #[] 5) = W0 at hB0 hG0 ⊢
  generalize hg0 : (some ⟨w.heap.size, 0, none⟩ : Option Addr) = a0 at hG0 ⊢
  clear hg0
  go_wp2_with fail
  go_loopw [4, 5] (fun ov iv wr => ∃ (j p : Nat) (a : Option Addr) (c : Nat) (acc : List UInt8), j ≤ n ∧ p ≤ j ∧ iv = .int .i64 j ∧ ov = .slice a p c ∧ Hid (acc.length = p) ∧ Hid (Reads (bL s) acc ((bL s).drop j)) ∧ Lg f8 1 5 w.heap.size a c acc wr ∧ Below w.heap.size w wr) (fun _ iv _ => n - (intOf iv).toNat)
  case atStart => exact ⟨0, 0, a0, 0, [], by omega, by omega, rfl, rfl, rfl, Reads.start _, hG0, hB0⟩
  case round =>
    clear hG0 hB0
    obtain ⟨j, p, a, c, acc, hj, hp, rfl, rfl, hAL, HR, hG, hB⟩ := hrel
    rename World => wr
    by_cases hjn : j < n
    · have j0 : (j : Int) < (n : Int) := by omega
      have j1 : (0 : Int) ≤ (j : Int) := by omega
      obtain ⟨x, hx⟩ : ∃ x, (bL s)[j]? = some x := ⟨_, List.getElem?_eq_getElem (by rw [hl]; exact hjn)⟩
      have hix := str_ix hx
      have HR1 : Hid (Reads (bL s) acc (x :: (bL s).drop (j + 1))) := by have h := HR.out; rw [drop_cons hx] at h; exact h
      by_cases h37 : x = 37
      · have d1 : ((x.toNat : Int) != 37) = false := by rw [h37]; rfl
        have d1' : (x.toNat : Int) = 37 := by rw [h37]; rfl
        rw [h37] at HR1
        by_cases hj2 : j + 2 < n
        · obtain ⟨x1, hx1⟩ : ∃ x, (bL s)[j + 1]? = some x := ⟨_, List.getElem?_eq_getElem (by rw [hl]; omega)⟩
          obtain ⟨x2, hx2⟩ : ∃ x, (bL s)[j + 2]? = some x := ⟨_, List.getElem?_eq_getElem (by rw [hl]; exact hj2)⟩
          have hix1 : ∀ W, (Instr.index 9 (.string s) (.int .i64 ((j : Int) + 1))).run Tryd.prog W = .ok (.int .u8 (x1.toNat : Int)) W := fun W => str_ix hx1 W
          have hix2 : ∀ W, (Instr.index 9 (.string s) (.int .i64 ((j : Int) + 2))).run Tryd.prog W = .ok (.int .u8 (x2.toNat : Int)) W := fun W => str_ix hx2 W
          have HR2 : Hid (Reads (bL s) acc (37 :: x1 :: x2 :: (bL s).drop (j + 3))) := by have h := HR1.out; rw [drop_cons hx1, drop_cons hx2] at h; exact h
          have hd0 : ¬ (n : Int) ≤ (j : Int) + 2 := by omega
          have v1 := value_ok x1
          have v2 := value_ok x2
          rcases valI_or x1 with h1 | ⟨i1, hi1, he1, h1⟩
          · have HN : Hid (∀ l, quo l ≠ bL s) := HR2.out.no (fun y r e => by
              simp only [List.cons.injEq] at e
              have := valI_hex' (y.toNat / 16) (by have := y.toNat_lt; omega)
              rw [← e.1] at this
              omega)
            rw [h1] at v1
            clear HR HR1 HR2 hx hx1 hx2 h37
            go_wp2_with fail
            refine (v1 wr).mono ?_
            rintro e w1 ⟨rfl, rfl⟩
            go_wp2_with fail
            go_ret2
            exact ⟨⟨[], false, rfl, by simp, fun l hl => absurd hl (HN.out l)⟩, hB⟩
          · rcases valI_or x2 with h2 | ⟨i2, hi2, he2, h2⟩
            · have HN : Hid (∀ l, quo l ≠ bL s) := HR2.out.no (fun y r e => by
                simp only [List.cons.injEq] at e
                have := valI_hex' (y.toNat % 16) (by omega)
                rw [← e.2.1] at this
                omega)
              rw [h1] at v1
              rw [h2] at v2
              have dv : ¬ (i1 : Int) < 0 := by omega
              clear HR HR1 HR2 hx hx1 hx2 h37
              go_wp2_with fail
              refine (v1 wr).mono ?_
              rintro e w1 ⟨rfl, rfl⟩
              go_wp2_with fail
              refine (v2 _).mono ?_
              rintro e w2 ⟨rfl, rfl⟩
              go_wp2_with fail
              go_ret2
              exact ⟨⟨[], false, rfl, by simp, fun l hl => absurd hl (HN.out l)⟩, hB⟩
            · have HR3 : Hid (Reads (bL s) (acc ++ [UInt8.ofNat (16 * i1 + i2)]) ((bL s).drop (j + 3))) := HR2.out.pct hi1 hi2 he1 he2
              obtain ⟨y, hy⟩ : ∃ y, UInt8.ofNat (16 * i1 + i2) = y := ⟨_, rfl⟩
              rw [hy] at HR3
              have hy9 : 16 * (i1 : Int) + (i2 : Int) = (y.toNat : Int) := by rw [← hy, UInt8.toNat_ofNat']; omega
              rw [h1] at v1
              rw [h2] at v2
              have dv : ¬ (i1 : Int) < 0 := by omega
              have dv2 : ¬ (i2 : Int) < 0 := by omega
              clear HR HR1 HR2 hx hx1 hx2 h37 hy
              go_wp2_with fail
              refine (v1 wr).mono ?_
              rintro e w1 ⟨rfl, rfl⟩
              go_wp2_with fail
              refine (v2 _).mono ?_
              rintro e w2 ⟨rfl, rfl⟩
              have hw1 : IntKind.i64.wrap ((j : Int) + 1) = (j : Int) + 1 := by rw [IntKind.wrap_i64]; omega
              have hw2 : IntKind.i64.wrap ((j : Int) + 2) = (j : Int) + 2 := by rw [IntKind.wrap_i64]; omega
              have hw3 : IntKind.i64.wrap (16 * (i1 : Int)) = 16 * (i1 : Int) := by rw [IntKind.wrap_i64]; omega
              have hw4 : IntKind.i64.wrap (y.toNat : Int) = (y.toNat : Int) := by rw [IntKind.wrap_i64]; omega
              have hw5 : IntKind.u8.wrap (y.toNat : Int) = (y.toNat : Int) := by rw [IntKind.wrap_u8]; omega
              replace hG := hG.below ((Below.refl _ _).drew)
              go_upto_region 9 with fail
              try simp only [Act.put, List.setIfInBounds_toArray, List.set_cons_zero, List.set_cons_succ]
              refine wp_region_held_drew (S := fun v => Below w.heap.size w v) (by kernel_rfl) hB.drew (fun hHeld => ?_)
              refine tkQ 0 hHeld ?_
              try simp only [yy]
              refine tkQ 1 hHeld ?_
              try simp only [yy]
              refine tkQ 2 hHeld ?_
              try simp only [yy]
              refine tkQ 3 hHeld ?_
              try simp only [yy]
              refine tkQ 4 hHeld ?_
              try simp only [yy]
              refine tkQ 7 hHeld ?_
              try simp only [yy]
              refine tkQ 8 hHeld ?_
              try simp only [yy]
              refine tkQ 9 hHeld ?_
              try simp only [yy]
              refine tkQ 10 hHeld ?_
              try simp only [yy]
              refine rd1 5 (fun K hK => ?_)
              go_simp
              go_wp2_with (refine (value_ok x1 _).mono ?_; rintro r u1 ⟨rfl, rfl⟩)
              refine hK.out _ _ hHeld (fun hHeld => ?_)
              clear hK K 
              refine tkQ 6 hHeld ?_
              try simp only [yy]
              refine rd1 11 (fun K hK => ?_)
              go_simp
              go_wp2_with (refine (value_ok x2 _).mono ?_; rintro r u2 ⟨rfl, rfl⟩)
              refine hK.out _ _ hHeld (fun hHeld => ?_)
              clear hK K 
              refine tkQ 12 hHeld ?_
              try simp only [yy]
              refine tkQ 13 hHeld ?_
              try simp only [yy]
              refine rd1 14 (fun K hK => ?_)
              rw [if_pos (by rfl)]
              refine wp_8 _ rfl y (v := (y.toNat : Int)) rfl rfl ?_
              intro g2 u3 hl2 hb
              replace hG := hG.below hb
              refine hK.out _ _ (below_next hHeld hb) (fun hHeld => ?_)
              clear hK K hb
              try simp only [yy]
              refine rd1 15 (fun K hK => ?_)
              rw [if_pos (by rfl)]
              refine wp_append_any f8_len _ _ rfl Tryd.underlying56 hI hz0 hsz hby hzs hG hHeld.size hAL.out rfl (M := [y]) (m := 1) rfl (hl2.src f8_len f8_one Tryd.underlying56 1) rfl rfl (by omega) (by simp only [maxLen]; omega) ?_
              intro aZ cZ u4 hZ hkZ _
              refine hK.out _ _ (hHeld.trans (hkZ.below (fun k hk => (hG.in k hk).1) hHeld.size)) (fun hHeld => ?_)
              clear hK K hkZ hl2 hG
              try simp only [yy]
              refine tkQ 16 hHeld ?_
              try simp only [yy]
              refine wpAnyH_done (by kernel_rfl) ?_ _
              have hB2 : Below w.heap.size w _ := hHeld
              go_wp2_with fail
              exact ⟨⟨j + 3, p + 1, aZ, cZ, acc ++ [y], by omega, by omega, by go_num, rfl, by show _ = _; rw [List.length_append, hAL.out]; rfl, HR3, hZ, hB2⟩, by simp [intOf]; omega⟩
        · have HN : Hid (∀ l, quo l ≠ bL s) := HR1.out.no (fun y r e => by
            have := congrArg List.length e
            rw [List.length_drop, hl] at this
            simp only [List.length_cons] at this
            omega)
          have hd0 : (n : Int) ≤ (j : Int) + 2 := by omega
          clear HR HR1 hx h37
          go_wp2_with fail
          go_ret2
          exact ⟨⟨[], false, rfl, by simp, fun l hl => absurd hl (HN.out l)⟩, hB⟩
      · have d1 : ((x.toNat : Int) != 37) = true := by
          have h : ¬ x.toNat = 37 := fun h => h37 (UInt8.toNat_inj.1 h)
          simp; omega
        have HR2 : Hid (Reads (bL s) (acc ++ [x]) ((bL s).drop (j + 1))) := HR1.out.plain h37
        clear HR HR1 hx h37
        go_wp2_with (first | (refine box_8 rfl _ rfl x rfl rfl ?_; intro W2 hl2 hb2; have hG2 := hG.below hb2; have hB2 := below_next hB hb2) | (refine append_any f8_len rfl _ _ rfl Tryd.underlying56 hI hz0 hsz hby hzs hG2 hB2.size hAL.out rfl (M := [x]) (m := 1) rfl (hl2.src f8_len f8_one Tryd.underlying56 1) rfl (by omega) (by simp only [maxLen]; omega) ?_; intro a3 c3 W3 hG3 hK3 _; have hB3 := hB2.trans (hK3.below (fun k hk => (hG2.in k hk).1) hB2.size); clear hK3 hl2 hb2 hG2))
        exact ⟨⟨j + 1, p + 1, a3, c3, acc ++ [x], by omega, by omega, by go_num, rfl, by show _ = _; rw [List.length_append, hAL.out]; rfl, HR2, hG3, hB3⟩, by simp [intOf]; omega⟩
    · obtain rfl : j = n := by omega
      have HD : Hid (∀ l, quo l = bL s → acc = l) := by have h := HR.out; rw [List.drop_eq_nil_of_le (by omega)] at h; exact h.done
      have hcv := conv_8 hG
      rw [hAL.out] at hcv
      have hlen : Hid (acc.length ≤ s.size) := by show _ ≤ _; rw [hAL.out, hn.out]; exact hp
      clear HR hG
      go_wp2_with fail
      go_ret2
      exact ⟨⟨acc, true, rfl, hlen.out, fun l hl => ⟨HD.out l hl, rfl⟩⟩, hB⟩


end Go.Proofs.YtehmcncclpimjaaDoor
