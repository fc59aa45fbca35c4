/-
  A letter that is turned: what turnText and Turn answer.
  Each theorem says its own conditions: lists and texts that memory bears.
-/
import Derived.Test.YthkfolohhdafkaaLeC
import Derived.Laws.BitsAllLaws
namespace Go.Proofs.Ythkfolohhdafkaa
set_option maxRecDepth 10000
open Go.RowKit Go.Sort
set_option linter.unusedVariables false
set_option linter.unusedSimpArgs false

theorem xor8_le (a b : UInt8) : bits .xor .u8 (a.toNat : Int) (b.toNat : Int) = ((a ^^^ b).toNat : Int) := by
  rw [u8_xor_nat _ _ a.toNat_lt b.toNat_lt, UInt8.toNat_xor]

/- The bytes behind k steps. -/
def trnK (s : ByteArray) (a m k : Nat) (j : Nat) : UInt8 := if a ≤ j ∧ j < a + k then at0 s j ^^^ mskB m (j - a) else at0 s j
theorem trnK_zero (s : ByteArray) (a m : Nat) : trnK s a m 0 = at0 s := by
  funext j
  unfold trnK
  rw [if_neg (by omega)]
theorem trnK_succ (s : ByteArray) (a m k : Nat) : (fun j => if j = a + k then trnK s a m k (a + k) ^^^ mskB m k else trnK s a m k j) = trnK s a m (k + 1) := by
  funext j
  unfold trnK
  by_cases h : j = a + k
  · subst h
    rw [if_pos rfl, if_neg (by omega), if_pos (by omega), Nat.add_sub_cancel_left]
  · rw [if_neg h]
    by_cases h2 : a ≤ j ∧ j < a + k
    · rw [if_pos h2, if_pos (by omega)]
    · rw [if_neg h2, if_neg (by omega)]
theorem textOf_ext {n : Nat} {f g : Nat → UInt8} (h : ∀ j, j < n → f j = g j) : textOf n f = textOf n g := by
  unfold textOf
  congr 2
  exact List.map_congr_left fun j hj => h j (by simpa using hj)
theorem trn_end (s : ByteArray) (a m k : Nat) (h : s.size ≤ a + k) : textOf s.size (trnK s a m k) = trnT s a m :=
  textOf_ext fun j hj => by
    unfold trnK trnF
    by_cases h2 : a ≤ j
    · rw [if_pos ⟨h2, by omega⟩, if_pos h2]
    · rw [if_neg (by omega), if_neg h2]
theorem trn_stop (s : ByteArray) (a m k : Nat) (h : m / 256 ^ k = 0) : textOf s.size (trnK s a m k) = trnT s a m :=
  textOf_ext fun j hj => by
    unfold trnK trnF
    by_cases h2 : a ≤ j
    · by_cases h3 : j < a + k
      · rw [if_pos ⟨h2, h3⟩, if_pos h2]
      · rw [if_neg (by omega), if_pos h2]
        have h4 : m / 256 ^ (j - a) = 0 := by
          have h5 : (256 : Nat) ^ k ≤ 256 ^ (j - a) := Nat.pow_le_pow_right (by decide) (by omega)
          rw [Nat.div_eq_zero_iff] at h ⊢
          rcases h with h | h
          · exact .inl (by have := Nat.pow_pos (n := k) (show 0 < 256 by decide); omega)
          · exact .inr (by omega)
        unfold mskB
        rw [h4]
        simp
    · rw [if_neg (by omega), if_neg h2]

set_option maxHeartbeats 1000000 in
theorem turnText_ok (s : ByteArray) (a m : Nat) (hs : s.size ≤ 140737488351232) (ha : a ≤ 9223372036854775807) (hm : m < 4294967296) (w : World) :
    Calls Try.prog 23 #[.string s, .int .i64 (a : Int), .int .u32 (m : Int)] w fun e w' => e = .returned (.string (trnT s a m)) ∧ Below w.heap.size w w' := by
  have hcv := Lib.run_convert_string_bytes (P := Try.prog) w 9 52 5 s Try.underlying9 Try.underlying52 Try.underlying5
  go_enter Try.func23, Try.ntmps23
  go_wp2_with fail
  clear hcv
  go_loopw [2, 8] (fun mv iv wr => ∃ k d : Nat, (k = 0 ∨ a + k ≤ s.size) ∧ iv = .int .i64 ((a + k : Nat) : Int) ∧ mv = .int .u32 (d : Int) ∧ d ≤ 4294967295 ∧ Hid (m / 256 ^ k = d) ∧ Hid (Held w.heap.size s.size (trnK s a m k) wr) ∧ Below w.heap.size w wr) (fun _ iv _ => s.size - (intOf iv).toNat)
  case atStart => exact ⟨0, m, .inl rfl, by simp, rfl, by omega, by simp [Hid], by rw [trnK_zero]; exact held_bytes w 5 s, below_bytes w 5 s⟩
  case round =>
    obtain ⟨k, d, hk, rfl, rfl, hd, HD, hf, hB⟩ := hrel
    rename World => wr
    by_cases hlt : a + k < s.size
    · obtain ⟨i, hi⟩ : ∃ i, Hid (a + k = i) := ⟨_, rfl⟩
      rw [hi.out] at hlt ⊢
      have hq : (i : Int) < (s.size : Int) := by omega
      by_cases hd0 : d = 0
      · subst hd0
        have kc := hf.out.conv (P := Try.prog) (cap := grownCap w s.size 0 5) 52 5 9 Try.underlying52 Try.underlying5 Try.underlying9
        rw [trn_stop s a m k HD.out] at kc
        go_wp2_with fail
        go_ret
        exact ⟨rfl, hB⟩
      · have hc := (hf.out.2 i hlt).1
        have hz := (hf.out.2 i hlt).2
        have hq0 : (0 : Int) ≤ (i : Int) := by omega
        have d0 : ((d : Int) != 0) = true := by simp [hd0]
        have cv : IntKind.u8.wrap (d : Int) = ((mskB m k).toNat : Int) := by
          rw [IntKind.wrap_u8']
          unfold mskB
          rw [HD.out, UInt8.toNat_ofNat']
          omega
        clear hd0 hk
        go_wp2_with fail
        rw [xor8_le]
        have h1 := hf.out.set hlt (trnK s a m k i ^^^ mskB m k)
        rw [← hi.out, trnK_succ] at h1
        rw [← hi.out]
        have h2 := hi.out
        refine ⟨⟨k + 1, d / 256, .inr (by omega), by go_num, by go_num, by omega, ?_, h1, hB.setCell (Nat.le_refl _) _⟩, by simp [intOf]; omega⟩
        show m / 256 ^ (k + 1) = d / 256
        rw [Nat.pow_succ, ← Nat.div_div_eq_div_mul, HD.out]
    · obtain ⟨i, hi⟩ : ∃ i, Hid (a + k = i) := ⟨_, rfl⟩
      have kc := hf.out.conv (P := Try.prog) (cap := grownCap w s.size 0 5) 52 5 9 Try.underlying52 Try.underlying5 Try.underlying9
      rw [trn_end s a m k (by omega)] at kc
      rw [hi.out] at hlt ⊢
      have hq : ¬ (i : Int) < (s.size : Int) := by omega
      clear hk
      go_wp2_with fail
      go_ret
      exact ⟨rfl, hB⟩

section
variable {α : Type} {f : α → List Value} {k : Nat}

theorem put_set (hk : ∀ x, (f x).length = k) {C : Array Value} {i r : Nat} {x e : α} {v : Value} (hC : ∀ j, j < k → C[i * k + j]? = (f x)[j]?) (hsz : i * k + k ≤ C.size) (he : f e = (f x).set r v) (hr : r < k) : putAt C (i * k) (f e) = C.setIfInBounds (i * k + r) v := by
  apply Array.ext_getElem?
  intro j
  rw [putAt_get (f e) (i * k) C j (by rw [hk]; exact hsz), hk, Array.getElem?_setIfInBounds]
  by_cases h : i * k ≤ j ∧ j < i * k + k
  · rw [if_pos h, he, List.getElem?_set, hk]
    by_cases h2 : i * k + r = j
    · rw [if_pos (by omega), if_pos h2, if_pos (by omega), if_pos (by omega)]
    · rw [if_neg (by omega), if_neg h2, ← hC (j - i * k) (by omega), show i * k + (j - i * k) = j by omega]
  · rw [if_neg h, if_neg (by omega)]
/- One cell of an element of a row of one's own is written. -/
theorem Ow.cell1 (hk : ∀ x, (f x).length = k) (hpos : 0 < k) {T : TypeId} {g cap : Nat} {L : List α} {w W : World} (h : Ow f k T g cap L w) (i : Nat) (x : α) (hx : L[i]? = some x) (e : α) {r : Nat} {v : Value} (he : f e = (f x).set r v) (hr : r < k)
    {C : Array Value} (hC : Blk g C T w) (hW : Blk g (C.setIfInBounds (i * k + r) v) T W) : Ow f k T g cap (L.set i e) W := by
  have hi := (List.getElem?_eq_some_iff.1 hx).1
  obtain ⟨cur, h0, h1, h2, h3, h4⟩ := h
  obtain ⟨rfl, _⟩ := h0.eq hC
  have hle : i * k + k ≤ L.length * k := by rw [← Nat.succ_mul]; exact Nat.mul_le_mul_right _ hi
  have hle2 : L.length * k ≤ cur.size := by rw [h3]; exact Nat.mul_le_mul_right _ h1
  refine Ow.put hk hpos ⟨cur, h0, h1, h2, h3, h4⟩ i hi e h0 ?_
  rw [put_set hk (x := x) (r := r) (v := v) (fun j hj => ?_) (by omega) he hr]
  · exact hW
  · have h5 := flat_get hk L i x hx j hj
    rw [← h4, List.getElem?_take, if_pos (by omega), Array.getElem?_toList] at h5
    exact h5
theorem Ow.blk {T : TypeId} {g cap : Nat} {L : List α} {w : World} (h : Ow f k T g cap L w) : ∃ C, Blk g C T w ∧ L.length * k ≤ C.size := by
  obtain ⟨c, h0, h1, _, h3, _⟩ := h
  exact ⟨c, h0, by rw [h3]; exact Nat.mul_le_mul_right _ h1⟩

end

theorem beqBytes (a b : ByteArray) : (a.toList == b.toList) = decide (a = b) := by
  by_cases h : a = b
  · simp [h]
  · rw [decide_eq_false h, beq_eq_false_iff_ne]
    exact leNe h

set_option maxHeartbeats 2000000 in
theorem turn_ok (L : List Le) (la : Option Addr) (lc : Nat) (f u ix a : Int) (m : Nat) (hix : -9223372036854775808 ≤ ix ∧ ix ≤ 9223372036854775807) (ha : a ≤ 9223372036854775807) (hm : m < 4294967296) (lz : L.length * 40 ≤ 140737488351232) (ls : ∀ x ∈ L, x.small) (w : World) (hL : Li Le.vals 0 la L w) :
    Calls Try.prog 13 #[.slice la L.length lc, .int .i64 f, .int .i64 u, .int .i64 ix, .int .i64 a, .int .u32 (m : Int)] w fun e w' => MadeL (trnL f u ix a m L) w.heap.size e w' ∧ Below w.heap.size w w' := by
  obtain ⟨n, hn⟩ : ∃ n, Hid (L.length = n) := ⟨_, rfl⟩
  have pF := find_ok L la lc f u ix hix lz
  have pC := lclone_ok L la lc (by omega)
  cases hp : pickL f u ix L with
  | none =>
    have HT : Hid (trnL f u ix a m L = L) := by unfold trnL; rw [hp]; exact rfl
    simp only [isL, hp] at pF
    rw [hn.out] at pF pC ⊢
    rw [HT.out]
    go_enter Try.func13, Try.ntmps13
    go_wp2_with fail
    refine (pC w hL).mono ?_
    rintro r w1 ⟨⟨g, c, rfl, h0⟩, hB⟩
    rw [hn.out]
    go_wp2_with fail
    refine (pF w1 (hL.below hB)).mono ?_
    rintro r w2 ⟨rfl, hb⟩
    replace h0 := h0.below hb
    replace hB := below_next hB hb
    clear pF pC hp
    go_wp2_with fail
    go_ret
    exact ⟨⟨g, c, by simp [hn.out], h0⟩, hB⟩
  | some p =>
    have hlt := pickL_lt hp
    obtain ⟨x, hx, _⟩ := pickL_some hp
    have hxs : x.t.size ≤ 140737488351232 := ls x (List.mem_of_getElem? hx)
    have hgd : Hid (L.getD p Le.zero = x) := by show _ = _; simp [List.getD, hx]
    simp only [isL, hp] at pF
    rw [hn.out] at pF pC hlt lz ⊢
    have p0 : (0 : Int) ≤ (p : Int) := by omega
    have p1 : (p : Int) < (n : Int) := by omega
    obtain ⟨b, o, rfl, _, _, _⟩ := hL.at Le.vals_length p x hx
    by_cases hst : a < 0 ∨ x.b = true
    · have HT : Hid (trnL f u ix a m L = L) := by show _ = _; unfold trnL; rw [hp]; show (if _ then _ else _) = _; rw [hgd.out, if_pos hst]
      rw [HT.out]
      go_enter Try.func13, Try.ntmps13
      go_wp2_with fail
      refine (pC w hL).mono ?_
      rintro r w1 ⟨⟨g, c, rfl, h0⟩, hB⟩
      rw [hn.out]
      go_wp2_with fail
      refine (pF w1 (hL.below hB)).mono ?_
      rintro r w2 ⟨rfl, hb⟩
      replace h0 := h0.below hb
      replace hB := below_next hB hb
      have c3 : w2.cell? ⟨b, o + p * 4 + 3, none⟩ = some (.bool x.b) := (hL.below hB).rng Le.vals_length p x hx 3 _ rfl
      simp only [Option.getD_some, Option.isSome_some]
      by_cases ha0 : a < 0
      · have a0 : decide (a < 0) = true := by simp [ha0]
        clear pF pC hp hst hx ha0
        go_wp2_with fail
        go_ret
        exact ⟨⟨g, c, by simp [hn.out], h0⟩, hB⟩
      · have a0 : decide (a < 0) = false := by simp; omega
        have hxb : x.b = true := by rcases hst with h | h; exact absurd h ha0; exact h
        rw [hxb] at c3
        clear pF pC hp hst hx ha0 hxb
        go_wp2_with fail
        go_ret
        exact ⟨⟨g, c, by simp [hn.out], h0⟩, hB⟩
    · have ha0 : 0 ≤ a := by omega
      have hxb : x.b = false := by cases h : x.b with | false => rfl | true => exact absurd (.inr h) hst
      obtain ⟨q, rfl⟩ := Int.eq_ofNat_of_zero_le ha0
      have HT : Hid (trnL f u ix (q : Int) m L = L.set p (trnE x q m)) := by show _ = _; unfold trnL; rw [hp]; show (if _ then _ else _) = _; rw [hgd.out, if_neg hst]; rfl
      rw [HT.out]
      have pT := turnText_ok x.t q m hxs (by omega) hm
      obtain ⟨tx, htx⟩ : ∃ tx, Hid (trnT x.t q m = tx) := ⟨_, rfl⟩
      rw [htx.out] at pT
      obtain ⟨t, ht⟩ : ∃ t, decide (tx = x.t) = t := ⟨_, rfl⟩
      have HE : Hid (trnE x q m = ⟨x.fr, x.u, tx, !t⟩) := by show _ = _; unfold trnE; rw [htx.out, ht]
      have t1 : (tx.toList == x.t.toList) = t := (beqBytes _ _).trans ht
      have t2 : (tx.toList != x.t.toList) = !t := by unfold bne; rw [t1]
      rw [HE.out]
      clear ht
      go_enter Try.func13, Try.ntmps13
      go_wp2_with fail
      refine (pC w hL).mono ?_
      rintro r w1 ⟨⟨ga, c, rfl, h0⟩, hB⟩
      rw [hn.out]
      go_wp2_with fail
      refine (pF w1 (hL.below hB)).mono ?_
      rintro r w2 ⟨rfl, hb⟩
      replace h0 := h0.below hb
      replace hB := below_next hB hb
      have c3 : w2.cell? ⟨b, o + p * 4 + 3, none⟩ = some (.bool x.b) := (hL.below hB).rng Le.vals_length p x hx 3 _ rfl
      have c2 : w2.cell? ⟨b, o + p * 4 + 2, none⟩ = some (.string x.t) := (hL.below hB).rng Le.vals_length p x hx 2 _ rfl
      rw [hxb] at c3
      simp only [Option.getD_some, Option.isSome_some]
      have a0 : decide ((q : Int) < 0) = false := by simp
      clear pF pC hp hst hb
      go_wp2_with fail
      refine (pT w2).mono ?_
      rintro r w3 ⟨rfl, hb⟩
      replace h0 := h0.below hb
      replace hB := below_next hB hb
      clear c3 c2 hb pT
      obtain ⟨rfl, rfl, rfl⟩ | ⟨g, rfl, hBg, h0⟩ := h0
      · simp at hx
      obtain ⟨C, hC, hCs⟩ := h0.blk
      rw [hn.out] at hCs
      have hps : p * 4 + 4 ≤ C.size := by omega
      have hx1 : ∀ y : Le, (L.set p y)[p]? = some y := fun y => by rw [List.getElem?_set_self (by rw [hn.out]; exact hlt)]
      go_wp2_with (first
        | (refine store_one rfl 9 _ _ rfl (off := p * 4 + 2) (.string tx) hC (by go_simp) rfl rfl rfl sizeStr1 (by omega) ?_; intro W4 b4 k4; have h4 := h0.cell1 Le.vals_length (by decide) p x hx ⟨x.fr, x.u, tx, x.b⟩ (r := 2) (v := .string tx) rfl (by decide) hC b4; have hB4 := below_at hB k4 hBg; have d2 : W4.cell? ⟨b, o + p * 4 + 2, none⟩ = some (.string x.t) := (hL.below hB4).rng Le.vals_length p x hx 2 _ rfl)
        | (refine store_one rfl 4 _ _ rfl (off := p * 4 + 3) (.bool (!t)) b4 (by go_simp) rfl rfl rfl sizeBool1 (by rw [Array.size_setIfInBounds]; omega) ?_; intro W5 b5 k5; have h5 := h4.cell1 Le.vals_length (by decide) p _ (hx1 _) ⟨x.fr, x.u, tx, !t⟩ (r := 3) (v := .bool (!t)) rfl (by decide) b4 b5; have hB5 := below_at hB4 k5 hBg))
      go_ret
      rw [List.set_set] at h5
      exact ⟨⟨some ⟨g, 0, none⟩, c, by simp [hn.out], Lg.of h5 hBg⟩, hB5⟩

end Go.Proofs.Ythkfolohhdafkaa
