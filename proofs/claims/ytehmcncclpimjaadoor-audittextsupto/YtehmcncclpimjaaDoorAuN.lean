/-
  Numbers that are read: what strconv's ParseUint (to the base 10, and of two bytes to the base 16) and Atoi return.
  Conditions: the variables for errors hold errors; a text has at most 281474976710656 bytes.
-/
import Derived.Test.YtehmcncclpimjaaDoorAuH
import Derived.Test.YtehmcncclpimjaaDoorShelg
import Derived.Lib.ParseIntBCases
import Derived.Lib.AtoiAllCases
namespace Go.Proofs.YtehmcncclpimjaaDoor
set_option maxRecDepth 10000
open Go.RowKit Go.Sort Go.Lib
set_option linter.unusedVariables false
set_option linter.unusedSimpArgs false

/- What the readers of numbers want of the variables. -/
structure Te (w : World) : Prop where
  tb : Tb w
  mx : ∃ m, w.cell? ⟨4, 0, none⟩ = some (.int .i64 m)
  syn : ∃ tp p, w.cell? ⟨0, 0, none⟩ = some (.iface tp p)
  rng : ∃ tp p, w.cell? ⟨1, 0, none⟩ = some (.iface tp p)
theorem Te.below {B : Nat} {w w' : World} (h : Te w) (hb : Below B w w') (hB : 8 ≤ B) : Te w' :=
  ⟨h.tb.below hb hB, by obtain ⟨m, hm⟩ := h.mx; exact ⟨m, (hb.cell (p := ⟨4, 0, none⟩) (show 4 < B by omega)).trans hm⟩,
   by obtain ⟨a, b, hm⟩ := h.syn; exact ⟨a, b, (hb.cell (p := ⟨0, 0, none⟩) (show 0 < B by omega)).trans hm⟩,
   by obtain ⟨a, b, hm⟩ := h.rng; exact ⟨a, b, (hb.cell (p := ⟨1, 0, none⟩) (show 1 < B by omega)).trans hm⟩⟩
theorem Te.next {w w' : World} (h : Te w) (hb : Below w.heap.size w w') : Te w' := h.below hb h.tb.big

/- An error, or none. -/
def ErrV (er : Bool) (x : Value) : Prop := if er = true then ∃ N, x = .iface 91 (.pointer (some ⟨N, 0, none⟩)) else x = .nilIface
theorem ErrV.no : ErrV false .nilIface := rfl
theorem ErrV.yes (N : Nat) : ErrV true (.iface 91 (.pointer (some ⟨N, 0, none⟩))) := ⟨N, rfl⟩

def numF (acc : Nat) (l : List UInt8) : Nat := l.foldl (fun a b => 10 * a + (b.toNat - 48)) acc
theorem numF_ge : ∀ (l : List UInt8) (acc : Nat), acc ≤ numF acc l
  | [], _ => Nat.le_refl _
  | b :: l, acc => Nat.le_trans (by omega) (numF_ge l (10 * acc + (b.toNat - 48)))
theorem uint_digits (M : Nat) (hM : M < 18446744073709551616) : ∀ (l : List UInt8) (acc : Nat), (∀ b ∈ l, isDig b = true) → numF acc l ≤ M → Lib.parseUintM M acc l = .ok (numF acc l)
  | [], _, _, _ => rfl
  | b :: l, acc, hd, h => by
    have hb := hd b (by simp)
    unfold isDig at hb
    rw [decide_eq_true_eq] at hb
    have h1 : numF acc (b :: l) = numF (10 * acc + (b.toNat - 48)) l := rfl
    have h2 := numF_ge l (10 * acc + (b.toNat - 48))
    rw [h1] at h ⊢
    unfold Lib.parseUintM
    rw [if_pos hb, if_neg (by omega), if_neg (by omega), show acc * 10 + (b.toNat - 48) = 10 * acc + (b.toNat - 48) by omega]
    exact uint_digits M hM l _ (fun x hx => hd x (by simp [hx])) h
theorem uint_digs (B m : Nat) (hB : 2 ^ B - 1 < 18446744073709551616) (h : m ≤ 2 ^ B - 1) : Lib.parseUintB B (digs m) = .ok m := by
  have e : numF 0 (digs m) = m := numL_digs m
  unfold Lib.parseUintB
  rw [if_neg (digs_ne m), uint_digits _ hB _ _ (digs_is m) (by rw [e]; exact h), e]
theorem atoi_sgns (k : Int) (h0 : -9223372036854775808 ≤ k) (h1 : k ≤ 9223372036854775807) : Lib.atoiAll (sgns k) = .ok k := by
  have h64 : (2 : Nat) ^ 64 = 18446744073709551616 := by decide
  have hm : Lib.parseMag (digs k.natAbs) = .ok k.natAbs := by
    rw [← Lib.parseUintB_64]
    exact uint_digs 64 k.natAbs (by decide) (by omega)
  unfold sgns
  split
  · rw [Lib.atoiAll_minus, hm]
    unfold Lib.signed
    simp only
    rw [if_neg (by omega)]
    congr 1
    omega
  · obtain ⟨b, l, h2, _⟩ := digs_head k.natAbs
    have hb := digs_is k.natAbs b (by rw [h2]; simp)
    unfold isDig at hb
    rw [decide_eq_true_eq] at hb
    rw [h2, Lib.atoiAll_plain b l (by omega) (by omega), ← h2, hm]
    unfold Lib.signless
    simp only
    rw [if_neg (by omega)]
    congr 1
    omega

def NumIs (B : Nat) (s : ByteArray) (e : Ending) : Prop := ∃ (v : Nat) (er : Bool) (x : Value), ErrV er x ∧ v < 18446744073709551616 ∧ e = .returned (.tuple #[.int .u64 (v : Int), x]) ∧ ∀ m, m ≤ 2 ^ B - 1 → digs m = bL s → v = m ∧ er = false
theorem below_or {w w' : World} {s : ByteArray} (h : w' = w ∨ w' = Lib.bytesWorld w 5 s) : Below w.heap.size w w' := by
  rcases h with rfl | rfl
  · exact Below.refl _ _
  · exact Lib.bytesWorld_below _ _ _
theorem pu64_ok (s : ByteArray) (hs : s.size ≤ 281474976710656) (w : World) (hE : Te w) : Calls Tryd.prog 39 #[.string s, .int .i64 10, .int .i64 64] w fun e w' => NumIs 64 s e ∧ Below w.heap.size w w' := by
  rcases h : Lib.parseUintB 64 s.data.toList with u | _ | _
  · refine (Tryd.strconv_ParseUint_10_at64_ok s (by omega) u h w).mono ?_
    rintro e w' ⟨rfl, hb⟩
    refine ⟨⟨u, false, .nilIface, ErrV.no, by have := Lib.parseUintB_le h; have : (2 : Nat) ^ 64 = 18446744073709551616 := (by decide); omega, rfl, fun m hm he => ⟨?_, rfl⟩⟩, below_or hb⟩
    have h2 := uint_digs 64 m (by decide) hm
    rw [he] at h2
    exact Lib.NumEnd.ok.inj (h.symm.trans h2)
  · obtain ⟨tp, p, hv⟩ := hE.syn
    refine (Tryd.synPu64 s hs (by rw [h]) _ w hv (.inr ⟨_, _, rfl⟩)).mono ?_
    rintro e w' ⟨N, rfl, _, _, hb⟩
    refine ⟨⟨0, true, _, ErrV.yes N, by omega, rfl, fun m hm he => ?_⟩, hb⟩
    have h2 := uint_digs 64 m (by decide) hm
    rw [he] at h2
    exact absurd (h.symm.trans h2) (by simp)
  · obtain ⟨tp, p, hv⟩ := hE.rng
    refine (Tryd.strconv_ParseUint_10_at64_range s hs h _ w hv (.inr ⟨_, _, rfl⟩)).mono ?_
    rintro e w' ⟨N, rfl, _, _, hb⟩
    refine ⟨⟨18446744073709551615, true, _, ErrV.yes N, by omega, rfl, fun m hm he => ?_⟩, hb⟩
    have h2 := uint_digs 64 m (by decide) hm
    rw [he] at h2
    exact absurd (h.symm.trans h2) (by simp)
theorem pu32_ok (s : ByteArray) (hs : s.size ≤ 281474976710656) (w : World) (hE : Te w) : Calls Tryd.prog 39 #[.string s, .int .i64 10, .int .i64 32] w fun e w' => NumIs 32 s e ∧ Below w.heap.size w w' := by
  have h32 : (2 : Nat) ^ 32 = 4294967296 := by decide
  rcases h : Lib.parseUintB 32 s.data.toList with u | _ | _
  · refine (Tryd.strconv_ParseUint_10_at32_ok s (by omega) u h w).mono ?_
    rintro e w' ⟨rfl, hb⟩
    refine ⟨⟨u, false, .nilIface, ErrV.no, by have := Lib.parseUintB_le h; omega, rfl, fun m hm he => ⟨?_, rfl⟩⟩, below_or hb⟩
    have h2 := uint_digs 32 m (by decide) hm
    rw [he] at h2
    exact Lib.NumEnd.ok.inj (h.symm.trans h2)
  · obtain ⟨tp, p, hv⟩ := hE.syn
    refine (Tryd.synPu32 s hs (by rw [h]) _ w hv (.inr ⟨_, _, rfl⟩)).mono ?_
    rintro e w' ⟨N, rfl, _, _, hb⟩
    refine ⟨⟨0, true, _, ErrV.yes N, by omega, rfl, fun m hm he => ?_⟩, hb⟩
    have h2 := uint_digs 32 m (by decide) hm
    rw [he] at h2
    exact absurd (h.symm.trans h2) (by simp)
  · obtain ⟨tp, p, hv⟩ := hE.rng
    refine (Tryd.strconv_ParseUint_10_at32_range s hs h _ w hv (.inr ⟨_, _, rfl⟩)).mono ?_
    rintro e w' ⟨N, rfl, _, _, hb⟩
    refine ⟨⟨4294967295, true, _, ErrV.yes N, by omega, rfl, fun m hm he => ?_⟩, hb⟩
    have h2 := uint_digs 32 m (by decide) hm
    rw [he] at h2
    exact absurd (h.symm.trans h2) (by simp)
def IntIs (s : ByteArray) (e : Ending) : Prop := ∃ (v : Int) (er : Bool) (x : Value), ErrV er x ∧ (-9223372036854775808 ≤ v ∧ v ≤ 9223372036854775807) ∧ e = .returned (.tuple #[.int .i64 v, x]) ∧ ∀ k : Int, -9223372036854775808 ≤ k → k ≤ 9223372036854775807 → sgns k = bL s → v = k ∧ er = false
theorem atoi_ok (s : ByteArray) (hs : s.size ≤ 281474976710656) (w : World) (hE : Te w) : Calls Tryd.prog 40 #[.string s] w fun e w' => IntIs s e ∧ Below w.heap.size w w' := by
  rcases h : Lib.atoiAll s.data.toList with v | _ | _
  · refine (Tryd.strconv_Atoi_ok s (by omega) v h w).mono ?_
    rintro e w' ⟨rfl, hb⟩
    refine ⟨⟨v, false, .nilIface, ErrV.no, Lib.atoiAll_bounds h, rfl, fun k h0 h1 he => ⟨?_, rfl⟩⟩, ?_⟩
    · have h2 := atoi_sgns k h0 h1
      rw [he] at h2
      exact Lib.NumEnd.ok.inj (h.symm.trans h2)
    · rcases hb with rfl | ⟨t, rfl⟩
      · exact Below.refl _ _
      · exact Lib.bytesWorld_below _ _ _
  · obtain ⟨tp, p, hv⟩ := hE.syn
    refine (Tryd.synAtoi s hs (by rw [h]) _ w hv (.inr ⟨_, _, rfl⟩)).mono ?_
    rintro e w' ⟨N, rfl, _, _, hb⟩
    refine ⟨⟨0, true, _, ErrV.yes N, by omega, rfl, fun k h0 h1 he => ?_⟩, hb⟩
    have h2 := atoi_sgns k h0 h1
    rw [he] at h2
    exact absurd (h.symm.trans h2) (by simp)
  · obtain ⟨tp, p, hv⟩ := hE.rng
    refine (Tryd.strconv_Atoi_range s hs h _ w hv (.inr ⟨_, _, rfl⟩)).mono ?_
    rintro e w' ⟨N, rfl, _, _, hb⟩
    refine ⟨⟨Lib.atoiSat s.data.toList, true, _, ErrV.yes N, Lib.atoiSat_bounds _, rfl, fun k h0 h1 he => ?_⟩, hb⟩
    have h2 := atoi_sgns k h0 h1
    rw [he] at h2
    exact absurd (h.symm.trans h2) (by simp)

/- Digits to the base 16, as the library reads them. -/
def lowN (c : UInt8) : Nat := (bits BinOp.or IntKind.u8 (c.toNat : Int) 32).toNat
theorem lowN_all : ∀ n : Fin 256, bits BinOp.or IntKind.u8 (n.val : Int) 32 = ((bits BinOp.or IntKind.u8 (n.val : Int) 32).toNat : Int) ∧ (bits BinOp.or IntKind.u8 (n.val : Int) 32).toNat < 256 := by decide +kernel
theorem lowN_is (c : UInt8) : bits BinOp.or IntKind.u8 (c.toNat : Int) 32 = (lowN c : Int) ∧ lowN c < 256 := lowN_all ⟨c.toNat, c.toNat_lt⟩
def hexD (c : UInt8) : Option Nat := if 48 ≤ c.toNat ∧ c.toNat ≤ 57 then some (c.toNat - 48) else if 97 ≤ lowN c ∧ lowN c ≤ 102 then some (lowN c - 87) else none
theorem hexD_all : ∀ n : Fin 16, hexD (hex n.val) = some n.val := by decide +kernel
theorem hexD_hex (k : Nat) (h : k < 16) : hexD (hex k) = some k := hexD_all ⟨k, h⟩
theorem hexD_lt {c : UInt8} {d : Nat} (h : hexD c = some d) : d < 16 := by
  unfold hexD at h
  split at h
  · cases h; omega
  · split at h
    · cases h; omega
    · cases h
theorem low95 : lowN 95 = 127 := by decide +kernel
def hexN : Nat → List UInt8 → Option Nat
  | acc, [] => some acc
  | acc, c :: r => match hexD c with | none => none | some d => hexN (16 * acc + d) r
def hexR (o : Option Nat) : Value := match o with | some u => .tuple #[.int .u64 (u : Int), .nilIface] | none => .tuple #[.int .u64 0, .iface 89 (.int .i64 2)]
theorem lower_ok (c : UInt8) (w : World) : Calls Tryd.prog 67 #[.int .u8 (c.toNat : Int)] w fun e w' => e = .returned (.int .u8 (lowN c : Int)) ∧ w' = w := by
  have h := Tryd.internal_strconv_lower (c.toNat : Int) w
  rw [(lowN_is c).1] at h
  exact h

set_option maxHeartbeats 16000000 in
set_option maxRecDepth 100000 in
theorem puHex_ok (t : ByteArray) (ht : t.size = 2) (w : World) :
    Calls Tryd.prog 52 #[.string t, .int .i64 16, .int .i64 8] w fun e w' => e = .returned (hexR (hexN 0 (bL t))) ∧ Below w.heap.size w w' := by
  have hne : t.size ≠ 0 := by omega
  have hemp : t.toList.isEmpty = false := by
    rw [← decide_eq_emptyBytes]
    exact decide_eq_false (fun h => hne (by rw [h]; rfl))
  have hcv := Lib.run_convert_string_bytes (P := Tryd.prog) w 9 56 5 t (u := .string) Tryd.underlying9 Tryd.underlying56 Tryd.underlying5
  have hB : ∀ j, j < t.size → (Lib.bytesWorld w 5 t).cell? ⟨w.heap.size, j, none⟩ = some (.int .u8 (t.data.toList.getD j 0).toNat) := fun j hj => Lib.bytesWorld_cell w 5 t j hj
  have hbl := Lib.bytesWorld_below w 5 t
  obtain ⟨W1, hW1⟩ : ∃ W1, W1 = Lib.bytesWorld w 5 t := ⟨_, rfl⟩
  rw [← hW1] at hcv hB hbl
  clear hW1
  obtain ⟨bs, hL⟩ : ∃ bs, bs = bL t := ⟨_, rfl⟩
  have hLn : bs.length = 2 := by rw [hL, bL_len, ht]
  have hB2 : ∀ (j : Nat) (x : UInt8), bs[j]? = some x → W1.cell? ⟨w.heap.size, j, none⟩ = some (.int .u8 (x.toNat : Int)) := fun j x hx => by
    have hj := (List.getElem?_eq_some_iff.1 hx).1
    rw [hB j (by omega)]
    rw [hL] at hx
    have : (t.data.toList.getD j 0) = x := by
      show ((bL t).getD j 0) = x
      rw [List.getD_eq_getElem?_getD, hx]
      rfl
    rw [this]
  rw [← hL]
  have hts : (t.size : Int) = 2 := by omega
  have hmv : IntKind.u64.wrap (IntKind.u64.wrap 256 - 1) = 255 := by
    rw [IntKind.wrap_u64, IntKind.wrap_u64]
    decide
  clear hL hB hne
  go_enter Tryd.func52, Tryd.ntmps52
  go_wp2
  go_loop [12, 13, 101] (fun vu vn vi => ∃ (k acc : Nat) (a : Int), vu = .bool false ∧ vn = .int .u64 a ∧ vi = .int .i64 k ∧ k ≤ 2 ∧ Hid (a = (acc : Int) ∧ acc ≤ 255 ∧ (k < 2 → acc ≤ 15) ∧ (k = 0 → acc = 0) ∧ hexN 0 bs = hexN acc (bs.drop k))) (fun _ _ vi => 2 - (RowKit.intOf vi).toNat)
  case atStart => exact ⟨0, 0, 0, rfl, rfl, rfl, by omega, rfl, by omega, by omega, fun _ => rfl, rfl⟩
  case round =>
    obtain ⟨k, acc, a, rfl, rfl, rfl, hk, hh⟩ := hrel
    by_cases hkn : k < 2
    · obtain ⟨c, hc⟩ : ∃ c, bs[k]? = some c := ⟨_, List.getElem?_eq_getElem (by omega)⟩
      have hcell := hB2 k c hc
      have hacc : acc ≤ 15 := hh.out.2.2.1 hkn
      have ha := hh.out.1
      have a0 : 0 ≤ a := by omega
      have a1 : a ≤ 15 := by omega
      have hk0 : k = 0 ∨ k = 1 := by omega
      have hdec : hexN 0 bs = hexN acc (c :: bs.drop (k + 1)) := by rw [hh.out.2.2.2.2, drop_cons hc]
      have hk00 := hh.out.2.2.2.1
      have hc256 : c.toNat < 256 := c.toNat_lt
      have pl := lower_ok c
      have hl256 := (lowN_is c).2
      cases hd : hexD c with
      | some d =>
        have hd16 := hexD_lt hd
        have HN : Hid (16 * acc + d ≤ 255 ∧ (k + 1 < 2 → 16 * acc + d ≤ 15) ∧ (k + 1 = 0 → 16 * acc + d = 0) ∧ hexN 0 bs = hexN (16 * acc + d) (bs.drop (k + 1))) := by
          refine ⟨by omega, fun h => ?_, fun h => by omega, by rw [hdec]; show hexN acc (c :: bs.drop (k + 1)) = _; rw [hexN, hd]⟩
          have := hk00 (by omega)
          omega
        clear hk00
        by_cases h48 : 48 ≤ c.toNat ∧ c.toNat ≤ 57
        · have hdl : c.toNat - 48 = d := by unfold hexD at hd; rw [if_pos h48] at hd; exact Option.some.inj hd
          have HN2 : Hid (a * 16 + ((c.toNat : Int) - 48) = ((16 * acc + (c.toNat - 48) : Nat) : Int) ∧ 16 * acc + (c.toNat - 48) ≤ 255 ∧ (k + 1 < 2 → 16 * acc + (c.toNat - 48) ≤ 15) ∧ (k + 1 = 0 → 16 * acc + (c.toNat - 48) = 0) ∧ hexN 0 bs = hexN (16 * acc + (c.toNat - 48)) (bs.drop (k + 1))) := ⟨by omega, by rw [hdl]; exact HN.out⟩
          have p1 : (48 : Int) ≤ (c.toNat : Int) := by omega
          have p2 : (c.toNat : Int) ≤ 57 := by omega
          have d95 : ((c.toNat : Int) == 95) = false := by simp; omega
          clear HN hdl hd hd16 hdec hh hc hB2 h48 hk0 pl hl256 ha hacc
          go_wp2
          exact ⟨⟨k + 1, 16 * acc + (c.toNat - 48), a * 16 + ((c.toNat : Int) - 48), rfl, (by first | rfl | (congr 1; omega)), (by first | rfl | (congr 1; omega)), by omega, HN2⟩, by simp [RowKit.intOf]; omega⟩
        · have hlo : 97 ≤ lowN c ∧ lowN c ≤ 102 := by
            unfold hexD at hd
            rw [if_neg h48] at hd
            split at hd
            · assumption
            · cases hd
          have hdl : lowN c - 87 = d := by unfold hexD at hd; rw [if_neg h48, if_pos hlo] at hd; exact Option.some.inj hd
          have HN2 : Hid (a * 16 + ((lowN c : Int) - 97 + 10) = ((16 * acc + (lowN c - 87) : Nat) : Int) ∧ 16 * acc + (lowN c - 87) ≤ 255 ∧ (k + 1 < 2 → 16 * acc + (lowN c - 87) ≤ 15) ∧ (k + 1 = 0 → 16 * acc + (lowN c - 87) = 0) ∧ hexN 0 bs = hexN (16 * acc + (lowN c - 87)) (bs.drop (k + 1))) := ⟨by omega, by rw [hdl]; exact HN.out⟩
          have q1 : (97 : Int) ≤ (lowN c : Int) := by omega
          have q2 : (lowN c : Int) ≤ 122 := by omega
          have q3 : (lowN c : Int) ≤ 102 := by omega
          have d95 : ((c.toNat : Int) == 95) = false := by
            have : ¬ c.toNat = 95 := fun h => by
              have h2 : c = 95 := UInt8.toNat_inj.1 h
              have := low95
              rw [← h2] at this
              omega
            simp; omega
          by_cases h480 : 48 ≤ c.toNat
          · have p1 : (48 : Int) ≤ (c.toNat : Int) := by omega
            have p2 : ¬ (c.toNat : Int) ≤ 57 := by omega
            clear HN hdl hd hd16 hdec hh hc hB2 hlo h48 hk0 ha hacc
            generalize lowN c = l at *
            go_wp2_with (go_at_call 67; refine (pl _).mono ?_; rintro e w' ⟨rfl, rfl⟩)
            exact ⟨⟨k + 1, 16 * acc + (l - 87), a * 16 + ((l : Int) - 97 + 10), rfl, (by first | rfl | (congr 1; omega)), (by first | rfl | (congr 1; omega)), by omega, HN2⟩, by simp [RowKit.intOf]; omega⟩
          · have p1 : ¬ (48 : Int) ≤ (c.toNat : Int) := by omega
            clear HN hdl hd hd16 hdec hh hc hB2 hlo h48 hk0 ha hacc
            generalize lowN c = l at *
            go_wp2_with (go_at_call 67; refine (pl _).mono ?_; rintro e w' ⟨rfl, rfl⟩)
            exact ⟨⟨k + 1, 16 * acc + (l - 87), a * 16 + ((l : Int) - 97 + 10), rfl, (by first | rfl | (congr 1; omega)), (by first | rfl | (congr 1; omega)), by omega, HN2⟩, by simp [RowKit.intOf]; omega⟩
      | none =>
        have hn48 : ¬ (48 ≤ c.toNat ∧ c.toNat ≤ 57) := fun h => by unfold hexD at hd; rw [if_pos h] at hd; cases hd
        have hnlo : ¬ (97 ≤ lowN c ∧ lowN c ≤ 102) := fun h => by unfold hexD at hd; rw [if_neg hn48, if_pos h] at hd; cases hd
        have HF : Hid (hexN 0 bs = none) := by show _ = _; rw [hdec, hexN, hd]
        clear hk00
        by_cases h95 : c = 95
        · subst h95
          have pl95 : ∀ w, Calls Tryd.prog 67 #[.int .u8 95] w fun e w' => e = .returned (.int .u8 127) ∧ w' = w := fun w => by
            have h := lower_ok 95 w
            rw [low95] at h
            exact h
          have hcell95 : W1.cell? ⟨w.heap.size, k, none⟩ = some (.int .u8 95) := hcell
          clear hd hdec hh hc hB2 hk0 ha hacc pl hcell hn48 hnlo hl256 hc256
          go_wp2_with (go_at_call 67; refine (pl95 _).mono ?_; rintro e w' ⟨rfl, rfl⟩)
          go_ret2
          exact ⟨by rw [HF.out]; rfl, hbl⟩
        · have d95 : ((c.toNat : Int) == 95) = false := by
            have : ¬ c.toNat = 95 := fun h => h95 (UInt8.toNat_inj.1 h)
            simp; omega
          clear h95
          clear hd hdec hh hc hB2 hk0 ha hacc
          go_wp2_with (go_at_call 67; refine (pl _).mono ?_; rintro e w' ⟨rfl, rfl⟩)
          all_goals go_ret2
          all_goals exact ⟨by rw [HF.out]; rfl, hbl⟩
    · obtain rfl : k = 2 := by omega
      have HF : Hid (hexN 0 bs = some acc) := by show _ = _; rw [hh.out.2.2.2.2, List.drop_eq_nil_of_le (by omega)]; rfl
      obtain rfl := hh.out.1
      have hacc := hh.out.2.1
      clear hh
      go_wp2
      go_ret2
      exact ⟨by rw [HF.out]; rfl, hbl⟩

end Go.Proofs.YtehmcncclpimjaaDoor
