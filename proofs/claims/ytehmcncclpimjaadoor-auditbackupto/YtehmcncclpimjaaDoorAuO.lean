/-
  The program's readCall: what a quoted text says.
  The text has at most 2147483648 bytes.
-/
import Derived.Test.YtehmcncclpimjaaDoorAuN
import Derived.Test.YtehmcncclpimjaaDoorAuK
namespace Go.Proofs.YtehmcncclpimjaaDoor
set_option maxRecDepth 10000
open Go.RowKit Go.Sort
set_option linter.unusedVariables false
set_option linter.unusedSimpArgs false

def HexIs (t : ByteArray) (e : Ending) : Prop := ∃ (v : Nat) (er : Bool) (x : Value), ErrV er x ∧ v ≤ 255 ∧ e = .returned (.tuple #[.int .u64 (v : Int), x]) ∧ ∀ i k, i < 16 → k < 16 → bL t = [hex i, hex k] → v = 16 * i + k ∧ er = false
theorem hexN_two {a b : UInt8} {u : Nat} (h : hexN 0 [a, b] = some u) : u ≤ 255 := by
  unfold hexN at h
  cases ha : hexD a with
  | none => rw [ha] at h; cases h
  | some d =>
    rw [ha] at h
    simp only at h
    unfold hexN at h
    cases hb : hexD b with
    | none => rw [hb] at h; cases h
    | some d2 =>
      rw [hb] at h
      simp only [hexN] at h
      have h1 := hexD_lt ha
      have h2 := hexD_lt hb
      cases h
      omega
theorem hexN_hex (i k : Nat) (hi : i < 16) (hk : k < 16) : hexN 0 [hex i, hex k] = some (16 * i + k) := by
  unfold hexN
  rw [hexD_hex i hi]
  simp only
  unfold hexN
  rw [hexD_hex k hk]
  simp only [hexN]
  congr 1
  omega
theorem two_bytes {t : ByteArray} (ht : t.size = 2) : ∃ a b, bL t = [a, b] := by
  have h := bL_len t
  rw [ht] at h
  match e : bL t, h with
  | [a, b], _ => exact ⟨a, b, rfl⟩
set_option maxHeartbeats 4000000 in
theorem pu16_ok (t : ByteArray) (ht : t.size = 2) (w : World) (hE : Te w) : Calls Tryd.prog 39 #[.string t, .int .i64 16, .int .i64 8] w fun e w' => HexIs t e ∧ Below w.heap.size w w' := by
  have pi := puHex_ok t ht w
  obtain ⟨a, b, hab⟩ := two_bytes ht
  have HH : Hid (∀ i k, i < 16 → k < 16 → bL t = [hex i, hex k] → hexN 0 (bL t) = some (16 * i + k)) := fun i k hi hk h => by rw [h]; exact hexN_hex i k hi hk
  cases h : hexN 0 (bL t) with
  | some u =>
    rw [h] at pi HH
    rw [hab] at h
    have hu := hexN_two h
    have HR : Hid (HexIs t (.returned (.tuple #[.int .u64 (u : Int), .nilIface]))) := ⟨u, false, .nilIface, ErrV.no, hu, rfl, fun i k hi hk h2 => ⟨Option.some.inj (HH.out i k hi hk h2), rfl⟩⟩
    clear HH h hab hE
    unfold hexR at pi
    simp only at pi
    go_enter Tryd.func39, Tryd.ntmps39
    go_wp2_with fail
    refine pi.mono ?_
    rintro e w1 ⟨rfl, hb⟩
    go_wp2_with fail
    go_ret2
    exact ⟨HR.out, hb⟩
  | none =>
    rw [h] at pi HH
    have HR : ∀ N, Hid (HexIs t (.returned (.tuple #[.int .u64 0, .iface 91 (.pointer (some ⟨N, 0, none⟩))]))) := fun N => ⟨0, true, _, ErrV.yes N, by omega, rfl, fun i k hi hk h2 => by have := HH.out i k hi hk h2; cases this⟩
    clear HH h hab
    unfold hexR at pi
    simp only at pi
    go_enter Tryd.func39, Tryd.ntmps39
    go_wp2_with fail
    refine pi.mono ?_
    rintro e w1 ⟨rfl, hb⟩
    replace hE := hE.next hb
    obtain ⟨tp, p, hv⟩ := hE.syn
    clear pi
    go_wp2_with fail
    refine (Tryd.synErr _ t 16 8 _ w1 (by omega) hv (.inr ⟨_, _, rfl⟩)).mono ?_
    rintro e w2 ⟨N, rfl, _, _, hb2⟩
    replace hb := below_next hb hb2
    clear hb2 hv hE
    have HR2 := HR N
    clear HR
    go_wp2_with fail
    go_ret2
    exact ⟨HR2.out, hb⟩

/- A text cut at the first byte x. -/
theorem index_one (l : List UInt8) (x : UInt8) : Lib.index l [x] = Lib.indexByte l x := by
  induction l with
  | nil => rfl
  | cons b l ih =>
    unfold Lib.index Lib.indexByte
    rw [ih]
    by_cases h : b = x
    · subst h
      simp [List.isPrefixOf]
    · have h' : ¬ x = b := fun e => h e.symm
      simp [List.isPrefixOf, h, h']
theorem indexB_no {l : List UInt8} {x : UInt8} (h : Lib.indexByte l x = -1) : x ∉ l := by
  induction l with
  | nil => simp
  | cons b l ih =>
    unfold Lib.indexByte at h
    split at h
    · omega
    · rename_i hb
      split at h
      · rename_i h2
        have := ih (by simpa using h2)
        intro hm
        rcases List.mem_cons.1 hm with e | hm
        · exact hb (by simp [e])
        · exact this hm
      · rename_i h2
        have h3 := Lib.indexByte_ge l x
        omega
theorem indexB_hit {l : List UInt8} {x : UInt8} (h : 0 ≤ Lib.indexByte l x) : ∃ i : Nat, Lib.indexByte l x = (i : Int) ∧ i < l.length ∧ l = l.take i ++ x :: l.drop (i + 1) ∧ x ∉ l.take i := by
  induction l with
  | nil => unfold Lib.indexByte at h; omega
  | cons b l ih =>
    by_cases hb : b = x
    · subst hb
      exact ⟨0, by simp [Lib.indexByte], by simp, by simp, by simp⟩
    · unfold Lib.indexByte at h ⊢
      have hb2 : ¬ (b == x) = true := by simpa using hb
      rw [if_neg hb2] at h ⊢
      split at h
      · omega
      · rename_i h2
        rw [if_neg h2]
        have h3 := Lib.indexByte_ge l x
        have h4 : Lib.indexByte l x ≠ -1 := by simpa using h2
        obtain ⟨i, h5, h6, h7, h8⟩ := ih (by omega)
        refine ⟨i + 1, by omega, by simp; omega, ?_, ?_⟩
        · simp only [List.take_succ_cons, List.drop_succ_cons, List.cons_append]
          rw [← h7]
        · simp only [List.take_succ_cons, List.mem_cons, not_or]
          exact ⟨fun e => hb e.symm, h8⟩
theorem indexB_or (l : List UInt8) (x : UInt8) : Lib.indexByte l x = -1 ∨ 0 ≤ Lib.indexByte l x := by
  have := Lib.indexByte_ge l x
  omega
def CutIs (l : List UInt8) (x : UInt8) (e : Ending) : Prop := (x ∉ l ∧ e = .returned (.tuple #[.string (strB l), .string (strB []), .bool false])) ∨ ∃ a r, l = a ++ x :: r ∧ x ∉ a ∧ e = .returned (.tuple #[.string (strB a), .string (strB r), .bool true])
theorem cut_ok (s : ByteArray) (x : UInt8) (hs : s.size < 4294967281) (w : World) (hE : Te w) : Calls Tryd.prog 55 #[.string s, .string { data := #[x] }] w fun e w' => CutIs (bL s) x e ∧ Below w.heap.size w w' := by
  obtain ⟨m, hm⟩ := hE.mx
  refine (Tryd.strings_Cut s { data := #[x] } m w hs hm).mono ?_
  rintro e w' ⟨rfl, n, rfl⟩
  refine ⟨?_, ⟨rfl, rfl, rfl, Nat.le_refl _, fun _ _ => rfl⟩⟩
  have e0 : Lib.cut s.data.toList (ByteArray.mk #[x]).data.toList = Lib.cut (bL s) [x] := rfl
  rw [e0]
  unfold Lib.cut
  rw [index_one]
  rcases indexB_or (bL s) x with h | h
  · rw [if_neg (by omega)]
    exact .inl ⟨indexB_no h, rfl⟩
  · rw [if_pos h]
    obtain ⟨i, h1, h2, h3, h4⟩ := indexB_hit h
    rw [h1]
    exact .inr ⟨(bL s).take i, (bL s).drop (i + 1), h3, h4, rfl⟩

theorem Reads.more {s acc a r : List UInt8} (h : Reads s acc (a ++ r)) (ha : (37 : UInt8) ∉ a) : Reads s (acc ++ a) r := fun l hl => by
  obtain ⟨l', h1, h2⟩ := h l hl
  obtain ⟨l2, h3, h4⟩ := quo_plain ha h2
  exact ⟨l2, by rw [h1, h3, List.append_assoc], h4⟩
theorem Reads.pct2 {s acc r : List UInt8} {a b : UInt8} {v : Nat} (h : Reads s acc (37 :: a :: b :: r)) (hv : ∀ i k, i < 16 → k < 16 → [a, b] = [hex i, hex k] → v = 16 * i + k) : Reads s (acc ++ [UInt8.ofNat v]) r := fun l hl => by
  obtain ⟨l', h1, h2⟩ := h l hl
  obtain ⟨y, l2, h3, h4⟩ := quo_pct h2
  simp only [List.cons.injEq] at h4
  obtain ⟨e1, e2, e3⟩ := h4
  have hy := y.toNat_lt
  have e4 := hv (y.toNat / 16) (y.toNat % 16) (by omega) (by omega) (by rw [e1, e2])
  have e : UInt8.ofNat v = y := by
    apply UInt8.toNat_inj.1
    rw [UInt8.toNat_ofNat', e4]
    omega
  exact ⟨l2, by rw [h1, h3, e]; simp, e3.symm⟩
set_option maxHeartbeats 8000000 in
theorem readCall_ok (s : ByteArray) (hs : s.size ≤ 2147483648) (w : World) (hE : Te w) : Calls Tryd.prog 41 #[.string s] w fun e w' => CallIs s e ∧ Below w.heap.size w w' := by
  have hB := below_box w (.cells #[.pointer none, .slice none 0 0] 58)
  have h0 := bld_new w
  have h8 := hE.tb.big
  have hl := bL_len s
  go_enter Tryd.func41, Tryd.ntmps41
  go_upto_region 2 with (go_big_may; refine alloc_zero builder_zero rfl rfl ?_)
  try simp only [Act.put, List.setIfInBounds_toArray, List.set_cons_zero, List.set_cons_succ]
  generalize w.alloc (.cells #[.pointer none, .slice none 0 0] 58) = W at hB h0 ⊢
  go_wp2_with fail
  go_loopw [0] (fun sv wr => ∃ (acc rest : List UInt8), sv = .string (strB rest) ∧ Hid (Reads (bL s) acc rest) ∧ acc.length + rest.length ≤ s.size ∧ Bld w.heap.size acc wr ∧ Below w.heap.size w wr) (fun sv _ => match sv with | .string b => b.size | _ => 0)
  case atStart => exact ⟨[], bL s, by rw [strB_bL], Reads.start _, by rw [hl]; simp, h0, hB⟩
  case round =>
    clear hB h0
    obtain ⟨acc, rest, rfl, HR, hlen, h, hB⟩ := hrel
    rename World => wr
    have hEr := hE.next hB
    have pc := cut_ok (strB rest) 37 (by rw [strB_size]; omega) wr hEr
    rw [bL_strB] at pc
    clear hEr
    go_wp2_with fail
    refine pc.mono ?_
    rintro e w1 ⟨hc, hb⟩
    replace h := h.kept hb
    replace hB := hB.trans (hb.mono hB.size)
    clear pc hb
    rcases hc with ⟨hno, rfl⟩ | ⟨a, r, hsp, hno, rfl⟩
    · have HF : Hid (CallIs s (.returned (.tuple #[.string (strB (acc ++ rest)), .bool true]))) := by
        refine ⟨acc ++ rest, true, rfl, by rw [List.length_append]; exact hlen, fun l hl => ⟨?_, rfl⟩⟩
        have h2 : Reads (bL s) acc (rest ++ []) := by rw [List.append_nil]; exact HR.out
        exact (h2.more hno).done l hl
      go_wp2_with fail
      refine (writeS_ok _ acc (strB rest) w1 h (by rw [strB_size]; omega)).mono ?_
      rintro e w2 ⟨rfl, h2, hk⟩
      rw [bL_strB] at h2
      replace hB := hB.trans hk.1
      clear h hk
      go_wp2_with fail
      refine (str_ok _ _ w2 h2).mono ?_
      rintro e w3 ⟨rfl, hk⟩
      replace hB := hB.trans hk.1
      clear h2 hk
      go_wp2_with fail
      go_ret2
      exact ⟨HF.out, hB⟩
    · have HR1 : Hid (Reads (bL s) (acc ++ a) (37 :: r)) := by have h2 := HR.out; rw [hsp] at h2; exact h2.more hno
      have hln : acc.length + a.length + 1 + r.length ≤ s.size := by rw [hsp] at hlen; simp only [List.length_append, List.length_cons] at hlen; omega
      have hrest : Hid (rest.length = a.length + 1 + r.length) := by show _ = _; rw [hsp]; simp only [List.length_append, List.length_cons]; omega
      clear HR hsp hno
      go_wp2_with fail
      refine (writeS_ok _ acc (strB a) w1 h (by rw [strB_size]; omega)).mono ?_
      rintro e w2 ⟨rfl, h2, hk⟩
      rw [bL_strB] at h2
      replace hB := hB.trans hk.1
      have hEr := hE.next hB
      clear h hk
      by_cases hr2 : 2 ≤ r.length
      · obtain ⟨x1, x2, r2, rfl⟩ : ∃ x1 x2 r2, r = x1 :: x2 :: r2 := by
          match r, hr2 with
          | x1 :: x2 :: r2, _ => exact ⟨x1, x2, r2, rfl⟩
        have hsz : (strB (x1 :: x2 :: r2)).size = r2.length + 2 := by rw [strB_size]; rfl
        have s1 : ∀ W, (Instr.slice 9 (.string (strB (x1 :: x2 :: r2))) none (some (.int .i64 2)) none).run Tryd.prog W = .ok (.string (strB [x1, x2])) W := fun W => sl_take (strB (x1 :: x2 :: r2)) 2 (by rw [hsz]; omega) .i64 W
        have s2 : ∀ W, (Instr.slice 9 (.string (strB (x1 :: x2 :: r2))) (some (.int .i64 2)) none none).run Tryd.prog W = .ok (.string (strB r2)) W := fun W => sl_drop (strB (x1 :: x2 :: r2)) 2 (by rw [hsz]; omega) .i64 2 rfl W
        have dl : ¬ ((r2.length : Int) + 2) < 2 := by omega
        have dl2 : ¬ (((strB (x1 :: x2 :: r2)).size : Nat) : Int) < 2 := by rw [hsz]; omega
        have pp := pu16_ok (strB [x1, x2]) rfl w2 hEr
        simp only [List.length_cons] at hln
        have hrs : Hid ((strB r2).size < (strB rest).size) := by show _ < _; rw [strB_size, strB_size, hrest.out]; simp only [List.length_cons]; omega
        clear hr2 hsz hEr
        go_wp2_with fail
        refine pp.mono ?_
        rintro e w3 ⟨⟨v, er, x, he, hv, rfl, hvx⟩, hb⟩
        rw [bL_strB] at hvx
        have HV : Hid (∀ i k, i < 16 → k < 16 → [x1, x2] = [hex i, hex k] → v = 16 * i + k ∧ er = false) := hvx
        replace h2 := h2.kept hb
        replace hB := hB.trans (hb.mono hB.size)
        clear pp hb hvx
        cases er with
        | true =>
          obtain ⟨N, rfl⟩ := he
          have HN : Hid (∀ l, quo l ≠ bL s) := HR1.out.no (fun y r e => by
            simp only [List.cons.injEq] at e
            have h9 := HV.out (y.toNat / 16) (y.toNat % 16) (by have := y.toNat_lt; omega) (by omega) (by rw [e.1, e.2.1])
            cases h9.2)
          clear HR1 HV h2
          go_wp2_with fail
          go_ret2
          exact ⟨⟨[], false, rfl, by simp, fun l hl => absurd hl (HN.out l)⟩, hB⟩
        | false =>
          obtain rfl : x = .nilIface := he
          have HR2 : Hid (Reads (bL s) (acc ++ a ++ [UInt8.ofNat v]) r2) := HR1.out.pct2 (fun i k hi hk h => (HV.out i k hi hk h).1)
          obtain ⟨y, hy⟩ : ∃ y, UInt8.ofNat v = y := ⟨_, rfl⟩
          rw [hy] at HR2
          have hyv : Hid ((v : Int) = (y.toNat : Int)) := by show _ = _; rw [← hy, UInt8.toNat_ofNat']; omega
          have pw : Calls Tryd.prog 48 #[.pointer (some ⟨w.heap.size, 0, none⟩), .int .u8 (v : Int)] w3 fun e w' => e = .returned .nilIface ∧ Bld w.heap.size (acc ++ a ++ [y]) w' ∧ Kb w.heap.size w3 w' := by
            rw [hyv.out]
            exact writeB_ok _ _ y w3 h2 (by rw [List.length_append]; omega)
          clear HR1 HV hy h2
          go_wp2_with fail
          refine pw.mono ?_
          rintro e w4 ⟨rfl, h4, hk⟩
          replace hB := hB.trans hk.1
          clear pw hk
          go_wp2_with fail
          exact ⟨⟨acc ++ a ++ [y], r2, rfl, HR2, by simp only [List.length_append, List.length_cons, List.length_nil]; omega, h4, hB⟩, hrs.out⟩
      · have HN : Hid (∀ l, quo l ≠ bL s) := HR1.out.no (fun y r e => by
          have := congrArg List.length e
          simp only [List.length_cons] at this
          omega)
        have dl2 : (((strB r).size : Nat) : Int) < 2 := by rw [strB_size]; omega
        clear HR1 h2 hEr hr2
        go_wp2_with fail
        go_ret2
        exact ⟨⟨[], false, rfl, by simp, fun l hl => absurd hl (HN.out l)⟩, hB⟩


end Go.Proofs.YtehmcncclpimjaaDoor
