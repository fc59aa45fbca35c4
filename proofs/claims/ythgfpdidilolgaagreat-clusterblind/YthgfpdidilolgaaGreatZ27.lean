/-
  Of the texts beneath these laws, in their order: LeD, ClA, ClB, ClC.
  Each theorem says its own conditions.
-/
import Derived.Test.YthgfpdidilolgaaGreatZ15
import Derived.Laws.BitsAllLaws
import Derived.Test.YthgfpdidilolgaaGreatZ07
import Derived.Test.YthgfpdidilolgaaGreatZ14
import Derived.Test.YthgfpdidilolgaaGreatZ16
import Derived.BigRegion
namespace Go.Proofs.YthgfpdidilolgaaGreat
set_option maxRecDepth 10000
open Go.RowKit Go.Sort
set_option linter.unusedVariables false
set_option linter.unusedSimpArgs false
theorem xor8_le (a b : UInt8) : bits .xor .u8 (a.toNat : Int) (b.toNat : Int) = ((a ^^^ b).toNat : Int) := by
 rw [u8_xor_nat _ _ a.toNat_lt b.toNat_lt, UInt8.toNat_xor]
def trnK (s : ByteArray) (a m k : Nat) (j : Nat) : UInt8 := if a ≤ j ∧ j < a + k then at0 s j ^^^ mskB m (j - a) else at0 s j
theorem trnK_zero (s : ByteArray) (a m : Nat) : trnK s a m 0 = at0 s := by
 funext j
 unfold trnK
 rw [if_neg (by omega)]
theorem trnK_succ (s : ByteArray) (a m k : Nat) : (fun j => if j = a + k then trnK s a m k (a + k) ^^^ mskB m k else trnK s a m k j) = trnK s a m (k + 1) := by
 funext j
 unfold trnK
 by_cases h : j = a + k
 ·subst h
  rw [if_pos rfl, if_neg (by omega), if_pos (by omega), Nat.add_sub_cancel_left]
 ·rw [if_neg h]
  by_cases h2 : a ≤ j ∧ j < a + k
  ·rw [if_pos h2, if_pos (by omega)]
  ·rw [if_neg h2, if_neg (by omega)]
theorem textOf_ext {n : Nat} {f g : Nat → UInt8} (h : ∀ j, j < n → f j = g j) : textOf n f = textOf n g := by
 unfold textOf
 congr 2
 exact List.map_congr_left fun j hj => h j (by simpa using hj)
theorem trn_end (s : ByteArray) (a m k : Nat) (h : s.size ≤ a + k) : textOf s.size (trnK s a m k) = trnT s a m :=
 textOf_ext fun j hj => by
  unfold trnK trnF
  by_cases h2 : a ≤ j
  ·rw [if_pos ⟨h2, by omega⟩, if_pos h2]
  ·rw [if_neg (by omega), if_neg h2]
theorem trn_stop (s : ByteArray) (a m k : Nat) (h : m / 256 ^ k = 0) : textOf s.size (trnK s a m k) = trnT s a m :=
 textOf_ext fun j hj => by
  unfold trnK trnF
  by_cases h2 : a ≤ j
  ·by_cases h3 : j < a + k
   ·rw [if_pos ⟨h2, h3⟩, if_pos h2]
   ·rw [if_neg (by omega), if_pos h2]
    have h4 : m / 256 ^ (j - a) = 0 := by
     have h5 : (256 : Nat) ^ k ≤ 256 ^ (j - a) := Nat.pow_le_pow_right (by decide) (by omega)
     rw [Nat.div_eq_zero_iff] at h ⊢
     rcases h with h | h
     ·exact .inl (by have := Nat.pow_pos (n := k) (show 0 < 256 by decide); omega)
     ·exact .inr (by omega)
    unfold mskB
    rw [h4]
    simp
  ·rw [if_neg (by omega), if_neg h2]
set_option maxHeartbeats 1000000 in
theorem turnText_ok (s : ByteArray) (a m : Nat) (hs : s.size ≤ 140737488351232) (ha : a ≤ 9223372036854775807) (hm : m < 4294967296) (w : World) :
  Calls Tryz.prog 68 #[.string s, .int .i64 (a : Int), .int .u32 (m : Int)] w fun e w' => e = .returned (.string (trnT s a m)) ∧ Below w.heap.size w w' := by
 have hcv := Lib.run_convert_string_bytes (P := Tryz.prog) w 9 162 5 s Tryz.underlying9 Tryz.underlying162 Tryz.underlying5
 go_enter Tryz.func68, Tryz.ntmps68
 go_wp2_with fail
 clear hcv
 go_loopw [2, 8] (fun mv iv wr => ∃ k d : Nat, (k = 0 ∨ a + k ≤ s.size) ∧ iv = .int .i64 ((a + k : Nat) : Int) ∧ mv = .int .u32 (d : Int) ∧ d ≤ 4294967295 ∧ Hid (m / 256 ^ k = d) ∧ Hid (Held w.heap.size s.size (trnK s a m k) wr) ∧ Below w.heap.size w wr) (fun _ iv _ => s.size - (intOf iv).toNat)
 case atStart => exact ⟨0, m, .inl rfl, by simp, rfl, by omega, by simp [Hid], by rw [trnK_zero]; exact held_bytes w 5 s, below_bytes w 5 s⟩
 case round =>
  obtain ⟨k, d, hk, rfl, rfl, hd, HD, hf, hB⟩ := hrel
  rename World => wr
  by_cases hlt : a + k < s.size
  ·obtain ⟨i, hi⟩ : ∃ i, Hid (a + k = i) := ⟨_, rfl⟩
   rw [hi.out] at hlt ⊢
   have hq : (i : Int) < (s.size : Int) := by omega
   by_cases hd0 : d = 0
   ·subst hd0
    have kc := hf.out.conv (P := Tryz.prog) (cap := grownCap w s.size 0 5) 162 5 9 Tryz.underlying162 Tryz.underlying5 Tryz.underlying9
    rw [trn_stop s a m k HD.out] at kc
    go_wp2_with fail
    go_ret
    exact ⟨rfl, hB⟩
   ·have hc := (hf.out.2 i hlt).1
    have hz := (hf.out.2 i hlt).2
    have hq0 : (0 : Int) ≤ (i : Int) := by omega
    have d0 : ((d : Int) != 0) = true := by simp [hd0]
    have cv : IntKind.u8.wrap (d : Int) = ((mskB m k).toNat : Int) := by
     rw [IntKind.wrap_u8']
     unfold mskB
     rw [HD.out, UInt8.toNat_ofNat']
     omega
    clear hd0 hk
    go_wp2_with fail
    rw [xor8_le]
    have h1 := hf.out.set hlt (trnK s a m k i ^^^ mskB m k)
    rw [← hi.out, trnK_succ] at h1
    rw [← hi.out]
    have h2 := hi.out
    refine ⟨⟨k + 1, d / 256, .inr (by omega), by go_num, by go_num, by omega, ?_, h1, hB.setCell (Nat.le_refl _) _⟩, by simp [intOf]; omega⟩
    show m / 256 ^ (k + 1) = d / 256
    rw [Nat.pow_succ, ← Nat.div_div_eq_div_mul, HD.out]
  ·obtain ⟨i, hi⟩ : ∃ i, Hid (a + k = i) := ⟨_, rfl⟩
   have kc := hf.out.conv (P := Tryz.prog) (cap := grownCap w s.size 0 5) 162 5 9 Tryz.underlying162 Tryz.underlying5 Tryz.underlying9
   rw [trn_end s a m k (by omega)] at kc
   rw [hi.out] at hlt ⊢
   have hq : ¬ (i : Int) < (s.size : Int) := by omega
   clear hk
   go_wp2_with fail
   go_ret
   exact ⟨rfl, hB⟩
theorem beqBytes (a b : ByteArray) : (a.toList == b.toList) = decide (a = b) := by
 by_cases h : a = b
 ·simp [h]
 ·rw [decide_eq_false h, beq_eq_false_iff_ne]
  exact leNe h
set_option maxHeartbeats 2000000 in
theorem turn_ok (L : List Le) (la : Option Addr) (lc : Nat) (f u ix a : Int) (m : Nat) (hix : -9223372036854775808 ≤ ix ∧ ix ≤ 9223372036854775807) (ha : a ≤ 9223372036854775807) (hm : m < 4294967296) (lz : L.length * 40 ≤ 140737488351232) (ls : ∀ x ∈ L, x.small) (w : World) (hL : Li Le.vals 0 la L w) :
  Calls Tryz.prog 46 #[.slice la L.length lc, .int .i64 f, .int .i64 u, .int .i64 ix, .int .i64 a, .int .u32 (m : Int)] w fun e w' => MadeL (trnL f u ix a m L) w.heap.size e w' ∧ Below w.heap.size w w' := by
 obtain ⟨n, hn⟩ : ∃ n, Hid (L.length = n) := ⟨_, rfl⟩
 have pF := find_ok L la lc f u ix hix lz
 have pC := lclone_ok L la lc (by omega)
 cases hp : pickL f u ix L with
 | none =>
  have HT : Hid (trnL f u ix a m L = L) := by unfold trnL; rw [hp]; exact rfl
  simp only [isL, hp] at pF
  rw [hn.out] at pF pC ⊢
  rw [HT.out]
  go_enter Tryz.func46, Tryz.ntmps46
  go_wp2_with fail
  refine (pC w hL).mono ?_
  rintro r w1 ⟨⟨g, c, rfl, h0⟩, hB⟩
  rw [hn.out]
  go_wp2_with fail
  refine (pF w1 (hL.below hB)).mono ?_
  rintro r w2 ⟨rfl, hb⟩
  replace h0 := h0.below hb
  replace hB := below_next hB hb
  clear pF pC hp
  go_wp2_with fail
  go_ret
  exact ⟨⟨g, c, by simp [hn.out], h0⟩, hB⟩
 | some p =>
  have hlt := pickL_lt hp
  obtain ⟨x, hx, _⟩ := pickL_some hp
  have hxs : x.t.size ≤ 140737488351232 := ls x (List.mem_of_getElem? hx)
  have hgd : Hid (L.getD p Le.zero = x) := by show _ = _; simp [List.getD, hx]
  simp only [isL, hp] at pF
  rw [hn.out] at pF pC hlt lz ⊢
  have p0 : (0 : Int) ≤ (p : Int) := by omega
  have p1 : (p : Int) < (n : Int) := by omega
  obtain ⟨b, o, rfl, _, _, _⟩ := hL.at Le.vals_length p x hx
  by_cases hst : a < 0 ∨ x.b = true
  ·have HT : Hid (trnL f u ix a m L = L) := by show _ = _; unfold trnL; rw [hp]; show (if _ then _ else _) = _; rw [hgd.out, if_pos hst]
   rw [HT.out]
   go_enter Tryz.func46, Tryz.ntmps46
   go_wp2_with fail
   refine (pC w hL).mono ?_
   rintro r w1 ⟨⟨g, c, rfl, h0⟩, hB⟩
   rw [hn.out]
   go_wp2_with fail
   refine (pF w1 (hL.below hB)).mono ?_
   rintro r w2 ⟨rfl, hb⟩
   replace h0 := h0.below hb
   replace hB := below_next hB hb
   have c3 : w2.cell? ⟨b, o + p * 4 + 3, none⟩ = some (.bool x.b) := (hL.below hB).rng Le.vals_length p x hx 3 _ rfl
   simp only [Option.getD_some, Option.isSome_some]
   by_cases ha0 : a < 0
   ·have a0 : decide (a < 0) = true := by simp [ha0]
    clear pF pC hp hst hx ha0
    go_wp2_with fail
    go_ret
    exact ⟨⟨g, c, by simp [hn.out], h0⟩, hB⟩
   ·have a0 : decide (a < 0) = false := by simp; omega
    have hxb : x.b = true := by rcases hst with h | h; exact absurd h ha0; exact h
    rw [hxb] at c3
    clear pF pC hp hst hx ha0 hxb
    go_wp2_with fail
    go_ret
    exact ⟨⟨g, c, by simp [hn.out], h0⟩, hB⟩
  ·have ha0 : 0 ≤ a := by omega
   have hxb : x.b = false := by cases h : x.b with | false => rfl | true => exact absurd (.inr h) hst
   obtain ⟨q, rfl⟩ := Int.eq_ofNat_of_zero_le ha0
   have HT : Hid (trnL f u ix (q : Int) m L = L.set p (trnE x q m)) := by show _ = _; unfold trnL; rw [hp]; show (if _ then _ else _) = _; rw [hgd.out, if_neg hst]; rfl
   rw [HT.out]
   have pT := turnText_ok x.t q m hxs (by omega) hm
   obtain ⟨tx, htx⟩ : ∃ tx, Hid (trnT x.t q m = tx) := ⟨_, rfl⟩
   rw [htx.out] at pT
   obtain ⟨t, ht⟩ : ∃ t, decide (tx = x.t) = t := ⟨_, rfl⟩
   have HE : Hid (trnE x q m = ⟨x.fr, x.u, tx, !t⟩) := by show _ = _; unfold trnE; rw [htx.out, ht]
   have t1 : (tx.toList == x.t.toList) = t := (beqBytes _ _).trans ht
   have t2 : (tx.toList != x.t.toList) = !t := by unfold bne; rw [t1]
   rw [HE.out]
   clear ht
   go_enter Tryz.func46, Tryz.ntmps46
   go_wp2_with fail
   refine (pC w hL).mono ?_
   rintro r w1 ⟨⟨ga, c, rfl, h0⟩, hB⟩
   rw [hn.out]
   go_wp2_with fail
   refine (pF w1 (hL.below hB)).mono ?_
   rintro r w2 ⟨rfl, hb⟩
   replace h0 := h0.below hb
   replace hB := below_next hB hb
   have c3 : w2.cell? ⟨b, o + p * 4 + 3, none⟩ = some (.bool x.b) := (hL.below hB).rng Le.vals_length p x hx 3 _ rfl
   have c2 : w2.cell? ⟨b, o + p * 4 + 2, none⟩ = some (.string x.t) := (hL.below hB).rng Le.vals_length p x hx 2 _ rfl
   rw [hxb] at c3
   simp only [Option.getD_some, Option.isSome_some]
   have a0 : decide ((q : Int) < 0) = false := by simp
   clear pF pC hp hst hb
   go_wp2_with fail
   refine (pT w2).mono ?_
   rintro r w3 ⟨rfl, hb⟩
   replace h0 := h0.below hb
   replace hB := below_next hB hb
   clear c3 c2 hb pT
   obtain ⟨rfl, rfl, rfl⟩ | ⟨g, rfl, hBg, h0⟩ := h0
   ·simp at hx
   obtain ⟨C, hC, hCs⟩ := h0.blk
   rw [hn.out] at hCs
   have hps : p * 4 + 4 ≤ C.size := by omega
   have hx1 : ∀ y : Le, (L.set p y)[p]? = some y := fun y => by rw [List.getElem?_set_self (by rw [hn.out]; exact hlt)]
   go_wp2_with (first
    | (refine store_one rfl 9 _ _ rfl (off := p * 4 + 2) (.string tx) hC (by go_simp) rfl rfl rfl sizeStr1 (by omega) ?_; intro W4 b4 k4; have h4 := h0.cell1 Le.vals_length (by decide) p x hx ⟨x.fr, x.u, tx, x.b⟩ (r := 2) (v := .string tx) rfl (by decide) hC b4; have hB4 := below_at hB k4 hBg; have d2 : W4.cell? ⟨b, o + p * 4 + 2, none⟩ = some (.string x.t) := (hL.below hB4).rng Le.vals_length p x hx 2 _ rfl)
    | (refine store_one rfl 4 _ _ rfl (off := p * 4 + 3) (.bool (!t)) b4 (by go_simp) rfl rfl rfl sizeBool1 (by rw [Array.size_setIfInBounds]; omega) ?_; intro W5 b5 k5; have h5 := h4.cell1 Le.vals_length (by decide) p _ (hx1 _) ⟨x.fr, x.u, tx, !t⟩ (r := 3) (v := .bool (!t)) rfl (by decide) b4 b5; have hB5 := below_at hB4 k5 hBg))
   go_ret
   rw [List.set_set] at h5
   exact ⟨⟨some ⟨g, 0, none⟩, c, by simp [hn.out], Lg.of h5 hBg⟩, hB5⟩
end Go.Proofs.YthgfpdidilolgaaGreat
namespace Go.Proofs.YthgfpdidilolgaaGreat
set_option maxRecDepth 10000
open Go.RowKit Go.Sort
def Td.vals (t : Td) : List Value := .int .i64 (t.who : Int) :: .int .u32 (t.inc : Int) :: (t.inn.vals ++ t.h.vals)
def Td.arr (t : Td) : Array Value := t.vals.toArray
def Td.zero : Td := ⟨0, 0, Idn.zero, Hp.zero⟩
theorem Td.vals_length (t : Td) : t.vals.length = 55 := rfl
theorem Td.arr_one (t : Td) : t.arr.all (·.oneCell') = true := by kernel_rfl
theorem Td.vals_one (x : Td) : ∀ v ∈ x.vals, v.oneCell' = true := by
 have h := x.arr_one
 rw [Td.arr, Array.all_eq_true'] at h
 intro v hv
 exact h v (by simpa using hv)
theorem sizeTd : (Tryz.prog.info? 59).map (·.size) = some 55 := by kernel_rfl
theorem zeroTd : (Tryz.prog.info? 59).map (fun i => (i.zero, i.size)) = some (some (.agg Td.zero.arr), 55) := by kernel_rfl
theorem infoTd : ∃ i z, Tryz.prog.info? 59 = some i ∧ i.zero = some z ∧ i.size = 55 ∧ i.bytes = 432 ∧ z.cells.size = 55 := by
 have h : (Tryz.prog.info? 59).map (fun i => (i.zero, i.size, i.bytes)) = some (some (.agg Td.zero.arr), 55, 432) := by kernel_rfl
 obtain ⟨i, hi, h0, h1, h2⟩ := info_parts h
 exact ⟨i, _, hi, h0, h1, h2, rfl⟩
theorem bsTd (x : Td) (w : World) : (Instr.buildSlice 34 1 #[(0, .agg x.arr)]).run Tryz.prog w = .ok (.slice (some ⟨w.heap.size, 0, none⟩) 1 1) (w.alloc (.cells x.arr 59)) := by kernel_rfl
theorem wp_td {o : Oper} {a : Act} {w : World} {K : Act → World → Prop} {Q : Exit → Act → World → Prop} (y : Operand) (ho : o.op = .buildSlice 34 1 #[(0, y)]) (x : Td) (hx : a.eval y = .agg x.arr)
  (h : ∀ p W, Blk p x.arr 59 W → Below w.heap.size w W → w.heap.size ≤ p → K (a.put o.dst (.slice (some ⟨p, 0, none⟩) 1 1)) W) : o.wp Tryz.prog a w K Q := by
 have hk := h _ _ (blk_new w x.arr 59) (below_box w _) (Nat.le_refl _)
 unfold Oper.wp execOp
 simp only [ho, List.map_toArray, List.map_cons, List.map_nil, hx, Sem.run_bind, Sem.run_pure, bsTd, Result.andThen_ok]
 exact hk
structure De where
 d : Int
 who : Int
 u : Int
 ix : Int
 at_ : Int
 m : Nat
 f : Nat → En
def De.vals (x : De) : List Value := .int .i64 x.d :: .int .i64 x.who :: .int .i64 x.u :: .int .i64 x.ix :: .int .i64 x.at_ :: .int .u32 (x.m : Int) :: frv x.f
def De.arr (x : De) : Array Value := x.vals.toArray
def De.zero : De := ⟨0, 0, 0, 0, 0, 0, noFr⟩
theorem De.vals_length (x : De) : x.vals.length = 42 := rfl
theorem De.arr_one (x : De) : x.arr.all (·.oneCell') = true := by kernel_rfl
theorem sizeDe : (Tryz.prog.info? 45).map (·.size) = some 42 := by kernel_rfl
theorem zeroDe : (Tryz.prog.info? 45).map (fun i => (i.zero, i.size)) = some (some (.agg De.zero.arr), 42) := by kernel_rfl
theorem De.p_frame (x : De) : (x.arr.extract 6 (6 + (frv x.f).length)).toList = frv x.f := by kernel_rfl
structure Cs where
 wait : Int
 cs : List (Co × List Kt)
 up : List Bool
 ls : List Le
 t : List Td
def uac (wt : Int) (c u l t : Value) : Array Value := #[.int .i64 wt, c, u, l, t]
def clc (wt : Int) (c u l : Value) : Array Value := #[.int .i64 wt, c, u, l]
theorem sizeUa : (Tryz.prog.info? 86).map (·.size) = some 5 := by kernel_rfl
theorem sizeCl : (Tryz.prog.info? 29).map (·.size) = some 4 := by kernel_rfl
theorem zeroUa : (Tryz.prog.info? 86).map (fun i => (i.zero, i.size)) = some (some (.agg (uac 0 (.slice none 0 0) (.slice none 0 0) (.slice none 0 0) (.slice none 0 0))), 5) := by kernel_rfl
theorem zeroCl : (Tryz.prog.info? 29).map (fun i => (i.zero, i.size)) = some (some (.agg (clc 0 (.slice none 0 0) (.slice none 0 0) (.slice none 0 0))), 4) := by kernel_rfl
def cov (x : Co × List Kt) : List Value := col x.1
theorem cov_length (x : Co × List Kt) : (cov x).length = 189 := rfl
theorem cov_one (x : Co × List Kt) : ∀ v ∈ cov x, v.oneCell' = true := by
 have h : (coc x.1).all (·.oneCell') = true := by kernel_rfl
 rw [coc, Array.all_eq_true'] at h
 intro v hv
 exact h v (List.mem_toArray.2 hv)
def wbs (P g u : Nat) (ta : Option Addr) : List Nat := P :: g :: u :: blkOf ta
structure Uc (P : Nat) (S : Cs) (g cc u uc : Nat) (la : Option Addr) (lc : Nat) (ta : Option Addr) (tc : Nat) (w : World) : Prop where
 fb : Blk P (uac S.wait (.slice (some ⟨g, 0, none⟩) S.cs.length cc) (.slice (some ⟨u, 0, none⟩) S.up.length uc) (.slice la S.ls.length lc) (.slice ta S.t.length tc)) 86 w
 fc : Ow cov 189 78 g cc S.cs w
 fu : Ow bvl 1 4 u uc S.up w
 fl : Li Le.vals 0 la S.ls w
 flc : S.ls.length ≤ lc ∧ lc ≤ 9223372036854775807
 ft : Lg Td.vals 55 59 0 ta tc S.t w
 fk : ∀ x ∈ S.cs, x.1.kn = x.2.length ∧ Li Kt.vals (g + 1) x.1.ka x.2 w ∧ ∀ b ∈ wbs P g u ta, Off x.1.ka x.2 b
 flo : ∀ b ∈ wbs P g u ta, Off la S.ls b
 n1 : P ≠ g ∧ P ≠ u ∧ g ≠ u
 n2 : P ∉ blkOf ta ∧ g ∉ blkOf ta ∧ u ∉ blkOf ta
theorem Uc.below {P : Nat} {S : Cs} {g cc u uc : Nat} {la : Option Addr} {lc : Nat} {ta : Option Addr} {tc : Nat} {w w' : World} (h : Uc P S g cc u uc la lc ta tc w) (hb : Below w.heap.size w w') : Uc P S g cc u uc la lc ta tc w' :=
 ⟨h.fb.below hb, h.fc.below hb, h.fu.below hb, h.fl.below hb, h.flc, h.ft.below hb, fun x hx => ⟨(h.fk x hx).1, (h.fk x hx).2.1.below hb, (h.fk x hx).2.2⟩, h.flo, h.n1, h.n2⟩
theorem Uc.lt {P : Nat} {S : Cs} {g cc u uc : Nat} {la : Option Addr} {lc : Nat} {ta : Option Addr} {tc : Nat} {w : World} (h : Uc P S g cc u uc la lc ta tc w) : ∀ b ∈ wbs P g u ta, b < w.heap.size := by
 intro b hb
 simp only [wbs, List.mem_cons] at hb
 rcases hb with rfl | rfl | rfl | hb
 ·exact h.fb.lt
 ·exact h.fc.lt
 ·exact h.fu.lt
 ·exact (h.ft.in b hb).2
end Go.Proofs.YthgfpdidilolgaaGreat
namespace Go.Proofs.YthgfpdidilolgaaGreat
set_option maxRecDepth 10000
open Go.RowKit Go.Sort
def isD (n : Nat) (who : Int) : Bool := decide (0 ≤ who ∧ who < (n : Int))
set_option maxHeartbeats 2000000 in
theorem isD_ok {P : Nat} {S : Cs} {g cc u uc : Nat} {la : Option Addr} {lc : Nat} {ta : Option Addr} {tc : Nat} {w : World} (h : Uc P S g cc u uc la lc ta tc w) (hn : S.up.length = S.cs.length) (who : Int) :
  Calls Tryz.prog 69 #[.pointer (some ⟨P, 0, none⟩), .int .i64 who] w fun e w' => e = .returned (.bool (isD S.cs.length who)) ∧ Below w.heap.size w w' := by
 have c1 : w.cell? ⟨P, 1, none⟩ = some (.slice (some ⟨g, 0, none⟩) S.cs.length cc) := h.fb.cell 1 _ rfl
 have c2 : w.cell? ⟨P, 2, none⟩ = some (.slice (some ⟨u, 0, none⟩) S.up.length uc) := h.fb.cell 2 _ rfl
 rw [hn] at c2
 clear h hn
 obtain ⟨n, en⟩ : ∃ n, Hid (S.cs.length = n) := ⟨_, rfl⟩
 rw [en.out] at c1 c2 ⊢
 clear en
 by_cases h0 : who < 0
 ·have e : isD n who = false := by unfold isD; rw [decide_eq_false_iff_not]; omega
  rw [e]
  have h1 : decide (who ≥ 0) = false := by rw [decide_eq_false_iff_not]; omega
  go_enter Tryz.func69, Tryz.ntmps69
  go_wp2_with fail
  go_region
  go_wp2_with fail
  go_ret
  exact ⟨rfl, (Below.refl _ _).drew⟩
 ·obtain ⟨i, rfl⟩ : ∃ i : Nat, who = (i : Int) := ⟨who.toNat, by omega⟩
  have e : isD n (i : Int) = decide (i < n) := by unfold isD; rw [decide_eq_decide]; omega
  rw [e]
  go_enter Tryz.func69, Tryz.ntmps69
  go_wp2_with fail
  go_region
  go_wp2_with fail
  go_ret
  exact ⟨rfl, (Below.refl _ _).drew⟩
theorem Ow.at {α : Type} {f : α → List Value} {k : Nat} (hk : ∀ x, (f x).length = k) {T : TypeId} {g cap : Nat} {L : List α} {w : World} (h : Ow f k T g cap L w) (i : Nat) (x : α) (hx : L[i]? = some x) : w.rangeAt g (i * k) (f x) := by
 obtain ⟨b, o, e, _, _, hr⟩ := (h.li (Nat.le_refl _)).at hk i x hx
 cases e
 rw [Nat.zero_add] at hr
 exact hr
set_option maxHeartbeats 2000000 in
theorem isUp_ok {P : Nat} {S : Cs} {g cc u uc : Nat} {la : Option Addr} {lc : Nat} {ta : Option Addr} {tc : Nat} {w : World} (h : Uc P S g cc u uc la lc ta tc w) (hn : S.up.length = S.cs.length) (who : Int) :
  Calls Tryz.prog 60 #[.pointer (some ⟨P, 0, none⟩), .int .i64 who] w fun e w' => e = .returned (.bool (isD S.cs.length who && S.up.getD who.toNat false)) ∧ Below w.heap.size w w' := by
 have p := isD_ok h hn who
 cases hd : isD S.cs.length who with
 | false =>
  rw [hd] at p
  clear h hn hd
  go_enter Tryz.func60, Tryz.ntmps60
  go_wp2_with fail
  refine p.mono ?_
  rintro r w1 ⟨rfl, hb⟩
  clear p
  go_wp2_with fail
  go_ret
  exact ⟨rfl, hb⟩
 | true =>
  rw [hd] at p
  unfold isD at hd
  rw [decide_eq_true_eq] at hd
  obtain ⟨i, rfl⟩ : ∃ i : Nat, who = (i : Int) := ⟨who.toNat, by omega⟩
  have hi : i < S.up.length := by omega
  obtain ⟨x, hx⟩ : ∃ x, S.up[i]? = some x := ⟨_, List.getElem?_eq_getElem hi⟩
  rw [Int.toNat_natCast, List.getD_eq_getElem?_getD, hx]
  have c2 : w.cell? ⟨P, 2, none⟩ = some (.slice (some ⟨u, 0, none⟩) S.up.length uc) := h.fb.cell 2 _ rfl
  have c3 : w.cell? ⟨u, i, none⟩ = some (.bool x) := by
   have := h.fu.at bvl_length i x hx 0 _ rfl
   rw [Nat.mul_one, Nat.add_zero] at this
   exact this
  have l1 := h.fb.lt
  have l2 := h.fu.lt
  obtain ⟨n, en⟩ : ∃ n, Hid (S.up.length = n) := ⟨_, rfl⟩
  rw [en.out] at c2 hi
  clear h hn hd en hx
  go_enter Tryz.func60, Tryz.ntmps60
  go_wp2_with fail
  refine p.mono ?_
  rintro r w1 ⟨rfl, hb⟩
  clear p
  replace c2 := (hb.cell (p := ⟨P, 2, none⟩) l1).trans c2
  replace c3 := (hb.cell (p := ⟨u, i, none⟩) l2).trans c3
  go_wp2_with fail
  go_ret
  exact ⟨rfl, hb⟩
end Go.Proofs.YthgfpdidilolgaaGreat
namespace Go.RowKit
open Go
theorem Below.below {u w w' : World} (h : Below u.heap.size u w) (hb : Below w.heap.size w w') : Below u.heap.size u w' := h.trans (hb.mono h.size)
end Go.RowKit
namespace Go.Proofs.YthgfpdidilolgaaGreat
set_option maxRecDepth 10000
open Go.RowKit Go.Sort
theorem below_kp {b : Nat} {u w w' : World} (h : Below u.heap.size u w) (hk : Kp [b] w w') (hb : u.heap.size ≤ b) : Below u.heap.size u w' := h.trans (hk.below1 hb h.size)
theorem Lg.kpo {α : Type} {f : α → List Value} {k : Nat} {T : TypeId} {B : Nat} {a : Option Addr} {cap : Nat} {L : List α} {w w' : World} (h : Lg f k T B a cap L w) {X : List Nat} (hb : Kp X w w') (hX : ∀ j ∈ blkOf a, j ∉ X) : Lg f k T B a cap L w' := by
 rcases h with h | ⟨g, rfl, h1, h2⟩
 ·exact .inl h
 ·exact .inr ⟨g, rfl, h1, h2.kp hb (hX g (by simp [blkOf]))⟩
theorem Uc.setUp {P : Nat} {S : Cs} {g cc u uc : Nat} {la : Option Addr} {lc : Nat} {ta : Option Addr} {tc : Nat} {w W : World} (h : Uc P S g cc u uc la lc ta tc w) (i : Nat) (b : Bool) (hk : Kp [u] w W) (ho : Ow bvl 1 4 u uc (S.up.set i b) W) :
  Uc P ⟨S.wait, S.cs, S.up.set i b, S.ls, S.t⟩ g cc u uc la lc ta tc W := by
 have m : u ∈ wbs P g u ta := by simp [wbs]
 refine ⟨?_, h.fc.kp hk (by simp; exact h.n1.2.2), ho, h.fl.off hk (by simpa using h.flo u m), h.flc, h.ft.kpo hk (fun j hj e => ?_), fun x hx => ⟨(h.fk x hx).1, (h.fk x hx).2.1.off hk (by simpa using (h.fk x hx).2.2 u m), (h.fk x hx).2.2⟩, h.flo, h.n1, h.n2⟩
 ·have := h.fb.kp1 hk h.n1.2.1
  show Blk P (uac S.wait _ (.slice _ (S.up.set i b).length _) _ _) _ W
  rw [List.length_set]
  exact this
 ·simp at e
  subst e
  exact h.n2.2.2 hj
theorem Uc.setCore {P : Nat} {S : Cs} {g cc u uc : Nat} {la : Option Addr} {lc : Nat} {ta : Option Addr} {tc : Nat} {w W : World} (h : Uc P S g cc u uc la lc ta tc w) (i : Nat) (c : Co) (L : List Kt) (hk : Kp [g] w W) (ho : Ow cov 189 78 g cc (S.cs.set i (c, L)) W)
  (hn : c.kn = L.length) (hl : Li Kt.vals (g + 1) c.ka L w) (hf : ∀ b ∈ wbs P g u ta, Off c.ka L b) : Uc P ⟨S.wait, S.cs.set i (c, L), S.up, S.ls, S.t⟩ g cc u uc la lc ta tc W := by
 have m : g ∈ wbs P g u ta := by simp [wbs]
 refine ⟨?_, ho, h.fu.kp hk (by simp; exact fun e => h.n1.2.2 e.symm), h.fl.off hk (by simpa using h.flo g m), h.flc, h.ft.kpo hk (fun j hj e => ?_), fun x hx => ?_, h.flo, h.n1, h.n2⟩
 ·have := h.fb.kp1 hk h.n1.1
  show Blk P (uac S.wait (.slice _ (S.cs.set i (c, L)).length _) _ _ _) _ W
  rw [List.length_set]
  exact this
 ·simp at e
  subst e
  exact h.n2.2.1 hj
 ·rcases List.mem_or_eq_of_mem_set hx with hx | rfl
  ·exact ⟨(h.fk x hx).1, (h.fk x hx).2.1.off hk (by simpa using (h.fk x hx).2.2 g m), (h.fk x hx).2.2⟩
  ·exact ⟨hn, hl.off hk (by simpa using hf g m), hf⟩
theorem Uc.setLs {P : Nat} {S : Cs} {g cc u uc : Nat} {la : Option Addr} {lc : Nat} {ta : Option Addr} {tc : Nat} {w W : World} (h : Uc P S g cc u uc la lc ta tc w) (M : List Le) {ma : Option Addr} {mc : Nat} (hk : Kp [P] w W)
  (hb : Blk P (uac S.wait (.slice (some ⟨g, 0, none⟩) S.cs.length cc) (.slice (some ⟨u, 0, none⟩) S.up.length uc) (.slice ma M.length mc) (.slice ta S.t.length tc)) 86 W) (hl : Li Le.vals 0 ma M w) (hc : M.length ≤ mc ∧ mc ≤ 9223372036854775807) (hf : ∀ b ∈ wbs P g u ta, Off ma M b) :
  Uc P ⟨S.wait, S.cs, S.up, M, S.t⟩ g cc u uc ma mc ta tc W := by
 have m : P ∈ wbs P g u ta := by simp [wbs]
 refine ⟨hb, h.fc.kp hk (by simp; exact fun e => h.n1.1 e.symm), h.fu.kp hk (by simp; exact fun e => h.n1.2.1 e.symm), hl.off hk (by simpa using hf P m), hc, h.ft.kpo hk (fun j hj e => ?_), fun x hx => ⟨(h.fk x hx).1, (h.fk x hx).2.1.off hk (by simpa using (h.fk x hx).2.2 P m), (h.fk x hx).2.2⟩, hf, h.n1, h.n2⟩
 simp at e
 subst e
 exact h.n2.1 hj
theorem bvl_put (C : Array Value) (i : Nat) (b : Bool) : putAt C (i * 1) (bvl b) = C.setIfInBounds i (.bool b) := by rw [Nat.mul_one]; rfl
theorem Ow.size1 {α : Type} {f : α → List Value} {k : Nat} {T : TypeId} {g cap : Nat} {L : List α} {w : World} (h : Ow f k T g cap L w) {C : Array Value} (hC : Blk g C T w) (i : Nat) (hi : i < L.length) : i * k + k ≤ C.size := by
 obtain ⟨D, hD, h1, _, h2, _⟩ := h
 cases (hC.eq hD).1
 rw [h2]
 have := Nat.mul_le_mul_right k (Nat.lt_of_lt_of_le hi h1)
 rw [Nat.succ_mul] at this
 exact this
def crashS (S : Cs) (who : Int) : Cs := if isD S.cs.length who = true then ⟨S.wait, S.cs, S.up.set who.toNat false, S.ls, S.t⟩ else S
set_option maxHeartbeats 2000000 in
theorem crash_ok {P : Nat} {S : Cs} {g cc u uc : Nat} {la : Option Addr} {lc : Nat} {ta : Option Addr} {tc : Nat} {w : World} (h : Uc P S g cc u uc la lc ta tc w) (hn : S.up.length = S.cs.length) (who : Int) :
  Calls Tryz.prog 47 #[.pointer (some ⟨P, 0, none⟩), .int .i64 who] w fun e w' => e = .returned (.tuple #[]) ∧ Uc P (crashS S who) g cc u uc la lc ta tc w' ∧ Kp (wbs P g u ta) w w' := by
 have p := isD_ok h hn who
 unfold crashS
 cases hd : isD S.cs.length who with
 | false =>
  rw [hd] at p
  rw [if_neg Bool.false_ne_true]
  go_enter Tryz.func47, Tryz.ntmps47
  go_wp2_with fail
  refine p.mono ?_
  rintro r w1 ⟨rfl, hb⟩
  clear p hd
  go_wp2_with fail
  go_end0
  exact ⟨rfl, h.below hb, Kp.of_below hb⟩
 | true =>
  rw [hd] at p
  rw [if_pos rfl]
  unfold isD at hd
  rw [decide_eq_true_eq] at hd
  obtain ⟨i, rfl⟩ : ∃ i : Nat, who = (i : Int) := ⟨who.toNat, by omega⟩
  have hi : i < S.up.length := by omega
  rw [Int.toNat_natCast]
  go_enter Tryz.func47, Tryz.ntmps47
  go_wp2_with fail
  refine p.mono ?_
  rintro r w1 ⟨rfl, hb⟩
  have h1 := h.below hb
  have c2 : w1.cell? ⟨P, 2, none⟩ = some (.slice (some ⟨u, 0, none⟩) S.up.length uc) := h1.fb.cell 2 _ rfl
  have hC := h1.fu
  obtain ⟨C, hC, _⟩ := hC
  have hz := h1.fu.size1 hC i hi
  rw [Nat.mul_one] at hz
  clear p hd hn
  obtain ⟨n, en⟩ : ∃ n, Hid (S.up.length = n) := ⟨_, rfl⟩
  have hi' := hi
  rw [en.out] at c2 hi'
  go_wp2_with (refine store_one rfl 4 _ _ rfl (off := i) (.bool false) hC rfl rfl rfl rfl (by kernel_rfl) hz ?_; intro W hW hk)
  go_end0
  rw [← bvl_put] at hW
  exact ⟨rfl, h1.setUp i false hk (h1.fu.put bvl_length (by decide) i hi false hC hW), (Kp.of_below hb).trans (hk.mono (by simp [wbs]))⟩
end Go.Proofs.YthgfpdidilolgaaGreat
