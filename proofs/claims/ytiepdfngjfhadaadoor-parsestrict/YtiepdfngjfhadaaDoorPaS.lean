/-
  The library's strings.Cut, CutPrefix, Clone, Join and strconv's FormatUint, Itoa, ParseUint: what each returns.
  Conditions: the library's variables hold what the program's text lays; at most 281474976710656 bytes in a text.
-/
import Derived.Test.YtiepdfngjfhadaaDoorPaC
import Derived.Test.YtiepdfngjfhadaaDoorShelg
import Derived.Lib.Strings
import Derived.Lib.LaidTab
import Derived.Lib.Join
import Derived.Lib.ItoaNum
import Derived.Lib.SmallJoins
import Derived.Lib.AppendIntMem
import Derived.Lib.ParseIntBCases
import Derived.Lib.QuietBelow
namespace Go.Proofs.YtiepdfngjfhadaaDoor
set_option maxRecDepth 10000
open Go.RowKit Go.Sort Go.Lib
set_option linter.unusedVariables false
set_option linter.unusedSimpArgs false

/- A variable of the program's packages stays as it is where new memory is made. -/
theorem var_on {g B : Nat} {n : String} {cs : Array Value} {W W' : World} (hg : Tryd.prog.globalNamed n = some g) (h : W.var? Tryd.prog n = some cs) (hb : Below B W W') (hB : g < B) : W'.var? Tryd.prog n = some cs := by
  unfold World.var? at h ⊢
  rw [hg] at h ⊢
  simp only [Option.bind_some] at h ⊢
  rw [hb.block g hB]
  exact h
theorem namedPow : Tryd.prog.globalNamed "internal/strconv.uint64pow10" = some 2 := by kernel_rfl
/- What the library's variables and the program's tables hold. -/
structure Te (w : World) : Prop where
  tab : Lib.TabIs Tryd.prog w "internal/strconv.uint64pow10" .u64 Lib.pow10Tab
  syn : ∃ tp p, w.cell? ⟨4, 0, none⟩ = some (.iface tp p)
  rng : ∃ tp p, w.cell? ⟨5, 0, none⟩ = some (.iface tp p)
  fs : Fs w
theorem Te.big {w : World} (h : Te w) : 8 ≤ w.heap.size := h.fs.big
theorem Te.below {B : Nat} {w w' : World} (h : Te w) (hb : Below B w w') (hB : 8 ≤ B) : Te w' :=
  ⟨var_on namedPow h.tab hb (show 2 < B by omega),
   by obtain ⟨a, b, hm⟩ := h.syn; exact ⟨a, b, (hb.cell (p := ⟨4, 0, none⟩) (show 4 < B by omega)).trans hm⟩,
   by obtain ⟨a, b, hm⟩ := h.rng; exact ⟨a, b, (hb.cell (p := ⟨5, 0, none⟩) (show 5 < B by omega)).trans hm⟩, h.fs.below hb hB⟩
theorem Te.next {w w' : World} (h : Te w) (hb : Below w.heap.size w w') : Te w' := h.below hb h.big
theorem Te.kp {p : Nat} {w w' : World} (h : Te w) (k : Kp [p] w w') (hp : 8 ≤ p) : Te w' := h.below (k.below1 hp h.big) (Nat.le_refl _)

/- An error, or none. -/
def ErrV (er : Bool) (x : Value) : Prop := if er = true then ∃ N, x = .iface 91 (.pointer (some ⟨N, 0, none⟩)) else x = .nilIface
theorem ErrV.no : ErrV false .nilIface := rfl
theorem ErrV.yes (N : Nat) : ErrV true (.iface 91 (.pointer (some ⟨N, 0, none⟩))) := ⟨N, rfl⟩
/- What reading a number to the base 10 gives: of digits without a needless 0 ahead this number, and no error. -/
def NumIs (s : ByteArray) (e : Ending) : Prop := ∃ (v : Nat) (er : Bool) (x : Value), ErrV er x ∧ v < 18446744073709551616 ∧ e = .returned (.tuple #[.int .u64 (v : Int), x]) ∧ ∀ m, m < 18446744073709551616 → digs m = bL s → v = m ∧ er = false

theorem dec_digs (n : Nat) : Lib.decDigits n = digs n := by
  induction n using Nat.strongRecOn with
  | ind n ih =>
    rw [Lib.decDigits]
    by_cases h : n < 10
    · rw [dif_pos h, digs_lt h]
      unfold dig
      rw [Nat.mod_eq_of_lt h]
    · rw [dif_neg h, digs_ge h, ih (n / 10) (by omega)]
      rfl
theorem itoa_sgns (k : Int) : Lib.itoa k = sgns k := by
  unfold Lib.itoa sgns
  split
  · rw [dec_digs]
  · rw [dec_digs, show k.toNat = k.natAbs by omega]

theorem arr24 : Tryd.prog.arrayLen 80 = 24 := by kernel_rfl
theorem zero24 : (Tryd.prog.info? 80).map (fun i => (i.zero, i.size)) = some (some (.agg Lib.zeros24), 24) := by kernel_rfl

set_option maxHeartbeats 6400000 in
set_option maxRecDepth 100000 in
theorem fmtI_ok (u : Nat) (hu : u < 18446744073709551616) (w : World) (hT : Te w) :
    Calls Tryd.prog 43 #[.int .u64 (u : Int), .int .i64 10] w fun e w' => e = .returned (.string (strB (digs u))) ∧ Below w.heap.size w w' := by
  rw [← dec_digs]
  by_cases hs : u < 100
  · have d0 : (u : Int) < 100 := by omega
    go_enter Tryd.func43, Tryd.ntmps43
    go_wp2_with fail
    refine (Tryd.internal_strconv_small u hs _).mono ?_
    rintro e w' ⟨rfl, rfl⟩
    go_wp2_with fail
    go_ret
    exact ⟨rfl, Below.refl _ _⟩
  · have hu1 : 1 ≤ u := by omega
    have d0 : ¬ (u : Int) < 100 := by omega
    have hnd20 : Lib.nDigits u ≤ 20 := by have := Lib.numDigits_eq u hu1 hu; split at this <;> omega
    have hb3 : Lib.nDigits u ≤ 24 := by omega
    have hsl : ∀ W, (Instr.sliceAt 80 (.pointer (some ⟨w.heap.size, 0, none⟩)) none (some (.int .i64 (Lib.nDigits u : Int))) none).run Tryd.prog W = .ok (.slice (some ⟨w.heap.size, 0, none⟩) (Lib.nDigits u) 24) W := fun W => by
      rw [run_sliceAt_array_h W 80 ⟨w.heap.size, 0, none⟩ Tryd.underlying80 .i64 (Lib.nDigits u : Int) (by omega) (by rw [arr24]; omega)]
      go_simp
      try omega
    have hH0 := Lib.holds_zero0 w 80 (Lib.nDigits u) (by omega)
    have hfmt := Tryd.internal_strconv_formatBase10 w.heap.size 0 24 u (Array.replicate (Lib.nDigits u) 0) (w.alloc (.cells Lib.zeros24 80)) hH0 (by rw [Array.size_replicate]; exact Lib.lt_pow_nDigits u) hu (by rw [Array.size_replicate]; omega)
    rw [Array.size_replicate] at hfmt
    have HH0 := Lib.hid hH0
    have hT2 := Lib.tabIs_alloc hT.tab (.cells Lib.zeros24 80)
    clear hH0 hT hnd20
    go_enter Tryd.func43, Tryd.ntmps43
    go_wp2_with (refine alloc_zero zero24 rfl rfl ?_)
    refine (Tryd.internal_strconv_numDigits u hu1 hu _ hT2).mono ?_
    rintro e w' ⟨rfl, rfl⟩
    go_wp2_with fail
    refine hfmt.mono ?_
    rintro e w' ⟨rfl, k, v', dk, rfl, hF⟩
    have hcv : (convert 33 9 (.slice (some ⟨w.heap.size, 0, none⟩) (Lib.nDigits u) 24)).run Tryd.prog ((putRow (fun (b : UInt8) => Value.int .u8 (b.toNat : Int)) (w.alloc (.cells Lib.zeros24 80)) w.heap.size 0 dk).drewN k) = .ok (.string ⟨(Lib.decDigits u).toArray⟩) ((putRow (fun (b : UInt8) => Value.int .u8 (b.toNat : Int)) (w.alloc (.cells Lib.zeros24 80)) w.heap.size 0 dk).drewN k) := by
      have h := run_convert_bytes_back (P := Tryd.prog) ((putRow (fun (b : UInt8) => Value.int .u8 (b.toNat : Int)) (w.alloc (.cells Lib.zeros24 80)) w.heap.size 0 dk).drewN k) 33 9 5 ⟨w.heap.size, 0, none⟩ 24 (Lib.decDigits u) Tryd.underlying33 Tryd.underlying5 Tryd.underlying9 (fun j hj => by
        rw [Lib.row_is_numeral hF j hj, Lib.add_plain, World.cell?_drewN]
        exact cell?_putRow (fun (b : UInt8) => Value.int .u8 (b.toNat : Int)) _ w.heap.size 0 _ dk HH0.out (by rw [hF.size, Array.size_replicate]) j (by rw [hF.size]; rw [Lib.decDigits_length] at hj; exact hj))
      rw [Lib.decDigits_length] at h
      exact h
    have hB : Below w.heap.size w ((putRow (fun (b : UInt8) => Value.int .u8 (b.toNat : Int)) (w.alloc (.cells Lib.zeros24 80)) w.heap.size 0 dk).drewN k) := by
      rw [alloc_eq_grow]
      obtain ⟨os', _, e⟩ := putRow_grow_new (fun (b : UInt8) => Value.int .u8 (b.toNat : Int)) w #[.cells Lib.zeros24 80] w.heap.size 0 dk (Nat.le_refl _)
      rw [e]
      exact Lib.below_grow _ w (Nat.le_refl _) k os'
    generalize (putRow (fun (b : UInt8) => Value.int .u8 (b.toNat : Int)) (w.alloc (.cells Lib.zeros24 80)) w.heap.size 0 dk).drewN k = W at hcv hB ⊢
    clear hF hfmt hT2
    go_wp2_with fail
    go_ret
    exact ⟨rfl, hB⟩

theorem fmt_ok (u : Nat) (hu : u < 18446744073709551616) (w : World) (hT : Te w) :
    Calls Tryd.prog 34 #[.int .u64 (u : Int), .int .i64 10] w fun e w' => e = .returned (.string (strB (digs u))) ∧ Below w.heap.size w w' := by
  have p := fmtI_ok u hu w hT
  go_enter Tryd.func34, Tryd.ntmps34
  go_wp2_with fail
  refine p.mono ?_
  rintro e w' ⟨rfl, hB⟩
  go_wp2_with fail
  go_ret
  exact ⟨rfl, hB⟩

theorem itoa_ok (k : Int) (h0 : -9223372036854775808 ≤ k) (h1 : k ≤ 9223372036854775807) (w : World) (hT : Te w) :
    Calls Tryd.prog 35 #[.int .i64 k] w fun e w' => e = .returned (.string (strB (sgns k))) ∧ Below w.heap.size w w' := by
  refine (Tryd.strconv_Itoa k h0 h1 w hT.tab).mono ?_
  rintro e w' ⟨rfl, n, os, rfl⟩
  exact ⟨by rw [← itoa_sgns]; rfl, Lib.below_grow _ w (Nat.le_refl _) n os⟩

def numF (acc : Nat) (l : List UInt8) : Nat := l.foldl (fun a b => 10 * a + (b.toNat - 48)) acc
theorem numF_ge : ∀ (l : List UInt8) (acc : Nat), acc ≤ numF acc l
  | [], _ => Nat.le_refl _
  | b :: l, acc => Nat.le_trans (by omega) (numF_ge l (10 * acc + (b.toNat - 48)))
theorem uint_digits (M : Nat) (hM : M < 18446744073709551616) : ∀ (l : List UInt8) (acc : Nat), (∀ b ∈ l, isDig b = true) → numF acc l ≤ M → Lib.parseUintM M acc l = .ok (numF acc l)
  | [], _, _, _ => rfl
  | b :: l, acc, hd, h => by
    have hb := hd b (by simp)
    unfold isDig at hb
    rw [decide_eq_true_eq] at hb
    have h1 : numF acc (b :: l) = numF (10 * acc + (b.toNat - 48)) l := rfl
    have h2 := numF_ge l (10 * acc + (b.toNat - 48))
    rw [h1] at h ⊢
    unfold Lib.parseUintM
    rw [if_pos hb, if_neg (by omega), if_neg (by omega), show acc * 10 + (b.toNat - 48) = 10 * acc + (b.toNat - 48) by omega]
    exact uint_digits M hM l _ (fun x hx => hd x (by simp [hx])) h
theorem uint_digs (B m : Nat) (hB : 2 ^ B - 1 < 18446744073709551616) (h : m ≤ 2 ^ B - 1) : Lib.parseUintB B (digs m) = .ok m := by
  have e : numF 0 (digs m) = m := numL_digs m
  unfold Lib.parseUintB
  rw [if_neg (digs_ne m), uint_digits _ hB _ _ (digs_is m) (by rw [e]; exact h), e]
theorem below_or {w w' : World} {s : ByteArray} (h : w' = w ∨ w' = Lib.bytesWorld w 5 s) : Below w.heap.size w w' := by
  rcases h with rfl | rfl
  · exact Below.refl _ _
  · exact Lib.bytesWorld_below _ _ _

/- Where the first blank is. -/
theorem ixB : ∀ l : List UInt8, Lib.indexByte l 32 = if (cutL l).2.2 = true then ((cutL l).1.length : Int) else -1
  | [] => rfl
  | b :: l => by
    have ih := ixB l
    by_cases hb : b = 32
    · subst hb
      rfl
    · rw [Lib.indexByte, cutL, if_neg hb, if_neg (by simpa using hb), ih]
      cases (cutL l).2.2
      · rfl
      · simp
        try omega
theorem cut_take (l : List UInt8) (h : (cutL l).2.2 = true) : l.take (cutL l).1.length = (cutL l).1 ∧ l.drop ((cutL l).1.length + 1) = (cutL l).2.1 ∧ (cutL l).1.length < l.length := by
  obtain ⟨_, h2, _⟩ := cutL_is l
  rw [if_pos h] at h2
  generalize (cutL l).1 = a at h2 ⊢
  generalize (cutL l).2.1 = b at h2 ⊢
  subst h2
  refine ⟨by simp, ?_, by simp⟩
  rw [List.drop_append]
  simp
set_option maxHeartbeats 4000000 in
theorem lcut_ok (s : ByteArray) (hs : s.size ≤ 9223372036854775806) (w : World) : Calls Tryd.prog 48 #[.string s, .string { data := #[32] }] w fun e w' => e = .returned (.tuple #[.string (strB (cutL (bL s)).1), .string (strB (cutL (bL s)).2.1), .bool (cutL (bL s)).2.2]) ∧ Below w.heap.size w w' := by
  have pi : ∀ w, Calls Tryd.prog 60 #[.string s, .string { data := #[32] }] w fun e w' => e = .returned (.int .i64 (if (cutL (bL s)).2.2 = true then ((cutL (bL s)).1.length : Int) else -1)) ∧ w' = w := fun w => by
    rw [← ixB]
    exact Tryd.stringslite_Index_one s 32 w
  cases hm : (cutL (bL s)).2.2 with
  | false =>
    rw [hm, if_neg (by decide)] at pi
    have h1 := cutL_is (bL s)
    rw [hm, if_neg (by decide), List.append_nil] at h1
    rw [h1.2.2 rfl, ← h1.2.1, strB_bL]
    clear h1 hm
    go_enter Tryd.func48, Tryd.ntmps48
    go_wp2_with fail
    refine (pi w).mono ?_
    rintro e w1 ⟨rfl, rfl⟩
    go_wp2_with fail
    go_ret3
    exact ⟨rfl, Below.refl _ _⟩
  | true =>
    rw [hm, if_pos rfl] at pi
    obtain ⟨h1, h2, h3⟩ := cut_take (bL s) hm
    generalize hn : (cutL (bL s)).1.length = n at pi h1 h2 h3
    rw [bL_len] at h3
    have s1 := sl_take s n (by omega) .i64
    have s2 := sl_drop s (n + 1) (by omega) .i64 ((n : Int) + 1) (by omega)
    rw [h1] at s1
    rw [h2] at s2
    have hw1 : IntKind.i64.wrap ((n : Int) + 1) = (n : Int) + 1 := by rw [IntKind.wrap_i64]; omega
    have n0 : (0 : Int) ≤ (n : Int) := by omega
    clear h1 h2 h3 hn hm
    generalize strB (cutL (bL s)).1 = A at s1 ⊢
    generalize strB (cutL (bL s)).2.1 = R at s2 ⊢
    go_enter Tryd.func48, Tryd.ntmps48
    go_wp2_with fail
    refine (pi w).mono ?_
    rintro e w1 ⟨rfl, rfl⟩
    clear pi
    go_upto_region 3 with fail
    try simp only [Act.put, List.setIfInBounds_toArray, List.set_cons_zero, List.set_cons_succ]
    refine wp_region_quiet_below (by kernel_rfl) (by kernel_rfl) ?_
    repeat (go_big_quiet_step (fail))
    refine wpQuiet_nil ?_
    intro _ hw'
    obtain ⟨⟨dq, osq⟩, hw''⟩ := hw'
    have hb := below_regrown w1 dq osq
    subst hw''
    generalize grow (redrawn w1 dq) osq = w2 at hb ⊢
    clear s1 s2
    go_wp2_with fail
    go_ret3
    exact ⟨rfl, hb⟩
theorem cut_ok (s : ByteArray) (hs : s.size ≤ 9223372036854775806) (w : World) : Calls Tryd.prog 39 #[.string s, .string { data := #[32] }] w fun e w' => e = .returned (.tuple #[.string (strB (cutL (bL s)).1), .string (strB (cutL (bL s)).2.1), .bool (cutL (bL s)).2.2]) ∧ Below w.heap.size w w' := by
  have pc := lcut_ok s hs w
  generalize strB (cutL (bL s)).1 = A at pc ⊢
  generalize strB (cutL (bL s)).2.1 = R at pc ⊢
  generalize (cutL (bL s)).2.2 = m at pc ⊢
  go_enter Tryd.func39, Tryd.ntmps39
  go_wp2_with fail
  refine pc.mono ?_
  rintro e w1 ⟨rfl, hb⟩
  go_wp2_with fail
  go_ret3
  exact ⟨rfl, hb⟩
theorem cutPrefix_ok (s : ByteArray) (w : World) : Calls Tryd.prog 41 #[.string s, .string { data := #[61] }] w fun e w' => e = .returned (.tuple #[.string (strB (Lib.trimPrefix (bL s) [61])), .bool (Lib.hasPrefix (bL s) [61])]) ∧ w' = w :=
  Tryd.strings_CutPrefix s ⟨#[61]⟩ w
theorem sclone_ok (s : ByteArray) (hs : s.size ≤ 281474976710656) (w : World) : Calls Tryd.prog 42 #[.string s] w fun e w' => e = .returned (.string s) ∧ Below w.heap.size w w' := by
  have pc := Tryd.stringslite_Clone s w hs
  go_enter Tryd.func42, Tryd.ntmps42
  go_wp2_with fail
  refine pc.mono ?_
  rintro e w1 ⟨rfl, hb⟩
  go_wp2_with fail
  go_ret
  exact ⟨rfl, hb⟩
theorem pu_ok (s : ByteArray) (hs : s.size ≤ 281474976710656) (w : World) (hE : Te w) : Calls Tryd.prog 40 #[.string s, .int .i64 10, .int .i64 64] w fun e w' => NumIs s e ∧ Below w.heap.size w w' := by
  have h64 : (2 : Nat) ^ 64 = 18446744073709551616 := by decide
  rcases h : Lib.parseUintB 64 s.data.toList with u | _ | _
  · refine (Tryd.strconv_ParseUint_10_at64_ok s (by omega) u h w).mono ?_
    rintro e w' ⟨rfl, hb⟩
    refine ⟨⟨u, false, .nilIface, ErrV.no, by have := Lib.parseUintB_le h; omega, rfl, fun m hm he => ⟨?_, rfl⟩⟩, below_or hb⟩
    have h2 := uint_digs 64 m (by decide) (by omega)
    rw [he] at h2
    exact Lib.NumEnd.ok.inj (h.symm.trans h2)
  · obtain ⟨tp, p, hv⟩ := hE.syn
    refine (Tryd.synPu64 s hs (by rw [h]) _ w hv (.inr ⟨_, _, rfl⟩)).mono ?_
    rintro e w' ⟨N, rfl, _, _, hb⟩
    refine ⟨⟨0, true, _, ErrV.yes N, by omega, rfl, fun m hm he => ?_⟩, hb⟩
    have h2 := uint_digs 64 m (by decide) (by omega)
    rw [he] at h2
    exact absurd (h.symm.trans h2) (by simp)
  · obtain ⟨tp, p, hv⟩ := hE.rng
    refine (Tryd.strconv_ParseUint_10_at64_range s hs h _ w hv (.inr ⟨_, _, rfl⟩)).mono ?_
    rintro e w' ⟨N, rfl, _, _, hb⟩
    refine ⟨⟨18446744073709551615, true, _, ErrV.yes N, by omega, rfl, fun m hm he => ?_⟩, hb⟩
    have h2 := uint_digs 64 m (by decide) (by omega)
    rw [he] at h2
    exact absurd (h.symm.trans h2) (by simp)
theorem join_ok (b c : Nat) (L : List ByteArray) (w : World) (hL : ∀ (j : Nat) x, L[j]? = some x → w.cell? ⟨b, 0 + j, none⟩ = some (.string x)) (hb : b < w.heap.size) (hn : L.length ≤ 140737488355328) (hc : L.length ≤ c) (hl : (Lib.join (L.map (·.data.toList)) [32]).length ≤ 140737488355328) :
    Calls Tryd.prog 37 #[.slice (some ⟨b, 0, none⟩) L.length c, .string { data := #[32] }] w fun e w' => e = .returned (.string (strB (Lib.join (L.map (·.data.toList)) [32]))) ∧ Below w.heap.size w w' :=
  Tryd.strings_Join b 0 c L ⟨#[32]⟩ w hL hb hn hc hl

end Go.Proofs.YtiepdfngjfhadaaDoor
