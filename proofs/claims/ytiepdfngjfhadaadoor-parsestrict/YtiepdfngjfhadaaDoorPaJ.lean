/-
  What the document's Number, Digit, Kinds, Services, At and Words answer.
  Each theorem says its own conditions.
-/
import Derived.Test.YtiepdfngjfhadaaDoorPaI
import Derived.Test.YtiepdfngjfhadaaDoorPaD
namespace Go.Proofs.YtiepdfngjfhadaaDoor
set_option maxRecDepth 10000
open Go.RowKit Go.Sort
set_option linter.unusedVariables false
set_option linter.unusedSimpArgs false

def numV (s : ByteArray) : Nat × Bool := if (1 ≤ (bL s).length ∧ (bL s).length ≤ 20) ∧ ∀ b ∈ bL s, isDig b = true then (numL (bL s) % 18446744073709551616, decide (digs (numL (bL s) % 18446744073709551616) = bL s)) else (0, false)
theorem numV_digs {s : ByteArray} {m : Nat} (hm : m < 18446744073709551616) (h : bL s = digs m) : numV s = (m, true) := by
  unfold numV
  rw [h, if_pos ⟨⟨digs_len_pos m, digs_20 hm⟩, digs_is m⟩, numL_digs, Nat.mod_eq_of_lt hm]
  simp
theorem numV_lt (s : ByteArray) : (numV s).1 < 18446744073709551616 := by
  unfold numV
  split
  · exact Nat.mod_lt _ (by decide)
  · decide
set_option maxHeartbeats 4000000 in
theorem rnumber_ok (s : ByteArray) (hs : s.size ≤ 9223372036854775806) (w : World) : Calls Tryd.prog 20 #[.string s] w fun e w' => e = .returned (.tuple #[.int .u64 ((numV s).1 : Int), .bool (numV s).2]) ∧ w' = w := by
  have hl := bL_len s
  have HE : Hid ((bL s).take s.size = bL s) := by show _ = _; rw [← hl, List.take_length]
  have HV0 : ¬ (1 ≤ s.size ∧ s.size ≤ 20) → Hid (numV s = (0, false)) := fun h => by
    show _ = _
    unfold numV
    rw [if_neg (by rw [hl]; exact fun k => h k.1)]
  have HV1 : ∀ j x, (bL s)[j]? = some x → isDig x = false → Hid (numV s = (0, false)) := fun j x hx hd => by
    show _ = _
    unfold numV
    rw [if_neg (fun k => by rw [k.2 x (List.mem_of_getElem? hx)] at hd; cases hd)]
  have HV2 : (1 ≤ s.size ∧ s.size ≤ 20) → (∀ b ∈ bL s, isDig b = true) → Hid (numV s = (numL (bL s) % 18446744073709551616, decide (digs (numL (bL s) % 18446744073709551616) = bL s))) := fun h k => by
    show _ = _
    unfold numV
    rw [if_pos ⟨by rw [hl]; exact h, k⟩]
  obtain ⟨n, hn⟩ : ∃ n, Hid (s.size = n) := ⟨_, rfl⟩
  rw [hn.out] at hs hl HE HV0 HV2
  have hns : (s.size : Int) = (n : Int) := by rw [hn.out]
  by_cases h0 : 1 ≤ n
  · by_cases h20 : n ≤ 20
    · have d0 : ¬ (n : Int) < 1 := by omega
      have d1 : ¬ (20 : Int) < (n : Int) := by omega
      clear HV0
      go_enter Tryd.func20, Tryd.ntmps20
      go_wp2_with fail
      clear d0 d1
      go_loopw [4, 5] (fun nv iv wr => ∃ j m : Nat, j ≤ n ∧ iv = .int .i64 j ∧ nv = .int .u64 (m : Int) ∧ m < 18446744073709551616 ∧ Hid (m = numL ((bL s).take j) % 18446744073709551616 ∧ ∀ b ∈ (bL s).take j, isDig b = true) ∧ wr = w) (fun _ iv _ => n - (intOf iv).toNat)
      case atStart => exact ⟨0, 0, by omega, rfl, rfl, by omega, ⟨rfl, by simp⟩, rfl⟩
      case round =>
        obtain ⟨j, m, hj, rfl, rfl, hm, HM, rfl⟩ := hrel
        rename World => wr
        by_cases hjn : j < n
        · have j0 : (j : Int) < (n : Int) := by omega
          have j1 : (0 : Int) ≤ (j : Int) := by omega
          obtain ⟨x, hx⟩ : ∃ x, (bL s)[j]? = some x := ⟨_, List.getElem?_eq_getElem (by rw [hl]; exact hjn)⟩
          have hix := str_ix hx
          have hx8 := x.toNat_lt
          cases hd : isDig x with
          | true =>
            have hd' := hd
            unfold isDig at hd'
            rw [decide_eq_true_eq] at hd'
            obtain ⟨p1, p2⟩ := hd'
            have d1 : ¬ (x.toNat : Int) < 48 := by omega
            have d2 : ¬ (57 : Int) < (x.toNat : Int) := by omega
            have hw1 : IntKind.u8.wrap ((x.toNat : Int) - 48) = ((x.toNat - 48 : Nat) : Int) := by rw [IntKind.wrap_u8]; omega
            have hw2 : IntKind.u64.wrap (IntKind.u64.wrap (10 * (m : Int)) + ((x.toNat - 48 : Nat) : Int)) = (((10 * m + (x.toNat - 48)) % 18446744073709551616 : Nat) : Int) := by rw [IntKind.wrap_u64, IntKind.wrap_u64]; omega
            have HM2 : Hid ((10 * m + (x.toNat - 48)) % 18446744073709551616 = numL ((bL s).take (j + 1)) % 18446744073709551616 ∧ ∀ b ∈ (bL s).take (j + 1), isDig b = true) := by
              refine ⟨?_, fun b hb => ?_⟩
              · rw [numL_take hx, HM.out.1]
                omega
              · rw [List.take_add_one, hx] at hb
                rcases List.mem_append.1 hb with hb | hb
                · exact HM.out.2 b hb
                · simp at hb; rw [hb]; exact hd
            clear hd hx HM p1 p2 HV1 HV2
            go_wp2_with fail
            exact ⟨⟨j + 1, (10 * m + (x.toNat - 48)) % 18446744073709551616, by omega, by go_num, by go_num, by omega, HM2, trivial⟩, by simp [intOf]; omega⟩
          | false =>
            have HF := HV1 j x hx hd
            have hd' := hd
            unfold isDig at hd'
            rw [decide_eq_false_iff_not] at hd'
            clear hx HM HV1 HV2 hd
            by_cases p1 : x.toNat < 48
            · have d1 : (x.toNat : Int) < 48 := by omega
              clear hd'
              go_wp2_with fail
              go_ret2
              exact ⟨by rw [HF.out]; rfl, rfl⟩
            · have d1 : ¬ (x.toNat : Int) < 48 := by omega
              have d2 : (57 : Int) < (x.toNat : Int) := by omega
              clear hd'
              go_wp2_with fail
              go_ret2
              exact ⟨by rw [HF.out]; rfl, rfl⟩
        · obtain rfl : j = n := by omega
          have hM := HM.out
          rw [HE.out] at hM
          have HF := HV2 ⟨h0, h20⟩ hM.2
          rw [← hM.1] at HF
          have pd := rdigits_ok m hm wr
          have hq := same_L (strB (digs m)) s (decide (digs m = bL s)) rfl
          generalize decide (digs m = bL s) = ok at HF hq
          clear hM HM HV1 HV2 HE
          go_wp2_with fail
          refine pd.mono ?_
          rintro e w1 ⟨rfl, rfl⟩
          go_wp2_with fail
          go_ret2
          exact ⟨by rw [HF.out]; rfl, rfl⟩
    · have HF := HV0 (by omega)
      rw [HF.out]
      have d0 : ¬ (n : Int) < 1 := by omega
      have d1 : (20 : Int) < (n : Int) := by omega
      go_enter Tryd.func20, Tryd.ntmps20
      go_wp2_with fail
      go_ret2
      exact ⟨rfl, rfl⟩
  · have HF := HV0 (by omega)
    rw [HF.out]
    have d0 : (n : Int) < 1 := by omega
    go_enter Tryd.func20, Tryd.ntmps20
    go_wp2_with fail
    go_ret2
    exact ⟨rfl, rfl⟩

theorem numV_O (s : ByteArray) : NumO (bL s) (if (numV s).2 = true then some (numV s).1 else none) := by
  cases hm : (numV s).2 with
  | true =>
    rw [if_pos rfl]
    refine ⟨numV_lt s, ?_⟩
    unfold numV at hm ⊢
    split
    · rename_i h
      rw [if_pos h] at hm
      exact of_decide_eq_true hm
    · rename_i h
      rw [if_neg h] at hm
      cases hm
  | false =>
    rw [if_neg (by decide)]
    intro n hn e
    rw [numV_digs hn e.symm] at hm
    cases hm

/- A digit from a least one to 7. -/
def DigIs (s : ByteArray) (lo : Nat) (e : Ending) : Prop := (∃ n : Nat, n ≤ 7 ∧ digs n = bL s ∧ e = .returned (.tuple #[.int .i64 (n : Int), .bool (decide (lo ≤ n))])) ∨ (e = .returned (.tuple #[.int .i64 0, .bool false]) ∧ ∀ n, n ≤ 7 → digs n ≠ bL s)
theorem digs_one {n : Nat} (h : n ≤ 7) : digs n = [dig n] := digs_lt (by omega)
set_option maxHeartbeats 4000000 in
theorem rdigit_ok (s : ByteArray) (lo : Nat) (hlo : lo ≤ 1) (w : World) : Calls Tryd.prog 21 #[.string s, .int .i64 (lo : Int)] w fun e w' => DigIs s lo e ∧ w' = w := by
  have hl := bL_len s
  by_cases h1 : s.size = 1
  · obtain ⟨x, hx⟩ : ∃ x, bL s = [x] := by
      rw [h1] at hl
      match bL s, hl with
      | [x], _ => exact ⟨x, rfl⟩
    have hix : ∀ W : World, (Instr.index 9 (.string s) (.int .i64 0)).run Tryd.prog W = .ok (.int .u8 (x.toNat : Int)) W := str_ix (c := s) (j := 0) (x := x) (by rw [hx]; rfl)
    have hx8 := x.toNat_lt
    have e1 : (s.size : Int) = 1 := by omega
    by_cases h48 : x.toNat < 48
    · have HR : Hid (DigIs s lo (.returned (.tuple #[.int .i64 0, .bool false]))) := .inr ⟨rfl, fun n hn e => by
        rw [hx, digs_one hn] at e
        have := congrArg UInt8.toNat (List.cons.inj e).1
        rw [dig_nat] at this
        omega⟩
      have d1 : (x.toNat : Int) < 48 := by omega
      clear hl h1 hx h48
      go_enter Tryd.func21, Tryd.ntmps21
      go_wp2_with fail
      go_ret2
      exact ⟨HR.out, rfl⟩
    · have d1 : ¬ (x.toNat : Int) < 48 := by omega
      by_cases h55 : 55 < x.toNat
      · have HR : Hid (DigIs s lo (.returned (.tuple #[.int .i64 0, .bool false]))) := .inr ⟨rfl, fun n hn e => by
          rw [hx, digs_one hn] at e
          have := congrArg UInt8.toNat (List.cons.inj e).1
          rw [dig_nat] at this
          omega⟩
        have d2 : (55 : Int) < (x.toNat : Int) := by omega
        clear hl h1 hx h48 h55
        go_enter Tryd.func21, Tryd.ntmps21
        go_wp2_with fail
        go_ret2
        exact ⟨HR.out, rfl⟩
      · have d2 : ¬ (55 : Int) < (x.toNat : Int) := by omega
        obtain ⟨n, hn⟩ : ∃ n : Nat, x.toNat = n + 48 := ⟨x.toNat - 48, by omega⟩
        have hx2 : (x.toNat : Int) = (n : Int) + 48 := by omega
        have hn7 : n ≤ 7 := by omega
        have hw1 : IntKind.u8.wrap ((n : Int) + 48 - 48) = (n : Int) := by rw [IntKind.wrap_u8]; omega
        have hw2 : IntKind.i64.wrap (n : Int) = (n : Int) := by rw [IntKind.wrap_i64]; omega
        have HR : Hid (DigIs s lo (.returned (.tuple #[.int .i64 (n : Int), .bool (decide (lo ≤ n))]))) := .inl ⟨n, hn7, by
          rw [hx, digs_one hn7]
          congr 1
          apply UInt8.toNat_inj.1
          rw [dig_nat]
          omega, rfl⟩
        rw [hx2] at hix d1 d2
        clear hl h1 hx h48 h55 hn hx2 hx8
        go_enter Tryd.func21, Tryd.ntmps21
        go_wp2_with fail
        go_ret2
        exact ⟨HR.out, rfl⟩
  · have HR : Hid (DigIs s lo (.returned (.tuple #[.int .i64 0, .bool false]))) := .inr ⟨rfl, fun n hn e => by
      have := congrArg List.length e
      rw [digs_one hn, hl] at this
      simp at this
      omega⟩
    have e1 : ((s.size : Int) != 1) = true := by simp; omega
    clear hl h1
    go_enter Tryd.func21, Tryd.ntmps21
    go_wp2_with fail
    go_ret2
    exact ⟨HR.out, rfl⟩

def kLs : List ByteArray := [kB 0, kB 1, kB 2, kB 3, kB 4, kB 5, kB 6]
def sLs : List ByteArray := [sB 0, sB 1, sB 2, sB 3]
theorem rkinds_ok (w : World) : Calls Tryd.prog 16 #[] w fun e w' => (∃ g, e = .returned (.slice (some ⟨g, 0, none⟩) 7 7) ∧ Li sv1 0 (some ⟨g, 0, none⟩) kLs w') ∧ Below w.heap.size w w' := by
  have hb := below_box w (.cells (flat sv1 kLs).toArray 9)
  have hL : Li sv1 0 (some ⟨w.heap.size, 0, none⟩) kLs (w.alloc (.cells (flat sv1 kLs).toArray 9)) := .inr ⟨w.heap.size, 0, rfl, Nat.zero_le _, by simp, (blk_new w (flat sv1 kLs).toArray 9).whole⟩
  have hr : ∀ W : World, (Instr.buildSlice 35 7 #[(0, .string { data := #[111, 112, 101, 110] }), (1, .string { data := #[99, 108, 111, 115, 101] }), (2, .string { data := #[109, 105, 110, 116] }), (3, .string { data := #[114, 101, 118, 111, 107, 101] }), (4, .string { data := #[106, 111, 105, 110] }), (5, .string { data := #[108, 101, 97, 118, 101] }), (6, .string { data := #[115, 101, 110, 100] })]).run Tryd.prog W = .ok (.slice (some ⟨W.heap.size, 0, none⟩) 7 7) (W.alloc (.cells (flat sv1 kLs).toArray 9)) := fun W => by kernel_rfl
  go_enter Tryd.func16, Tryd.ntmps16
  go_wp2_with fail
  go_ret
  exact ⟨⟨_, rfl, hL⟩, hb⟩
theorem rservices_ok (w : World) : Calls Tryd.prog 22 #[] w fun e w' => (∃ g, e = .returned (.slice (some ⟨g, 0, none⟩) 4 4) ∧ Li sv1 0 (some ⟨g, 0, none⟩) sLs w') ∧ Below w.heap.size w w' := by
  have hb := below_box w (.cells (flat sv1 sLs).toArray 9)
  have hL : Li sv1 0 (some ⟨w.heap.size, 0, none⟩) sLs (w.alloc (.cells (flat sv1 sLs).toArray 9)) := .inr ⟨w.heap.size, 0, rfl, Nat.zero_le _, by simp, (blk_new w (flat sv1 sLs).toArray 9).whole⟩
  have hr : ∀ W : World, (Instr.buildSlice 35 4 #[(0, .string { data := #[102, 105, 102, 111] }), (1, .string { data := #[99, 97, 117, 115, 97, 108] }), (2, .string { data := #[97, 103, 114, 101, 101, 100] }), (3, .string { data := #[115, 97, 102, 101] })]).run Tryd.prog W = .ok (.slice (some ⟨W.heap.size, 0, none⟩) 4 4) (W.alloc (.cells (flat sv1 sLs).toArray 9)) := fun W => by kernel_rfl
  go_enter Tryd.func22, Tryd.ntmps22
  go_wp2_with fail
  go_ret
  exact ⟨⟨_, rfl, hL⟩, hb⟩

set_option maxHeartbeats 4000000 in
theorem rat_ok (L : List ByteArray) (la : Option Addr) (lc : Nat) (hl : L.length ≤ 1000) (s : ByteArray) (w : World) (hS : Li sv1 0 la L w) :
    Calls Tryd.prog 19 #[.slice la L.length lc, .string s] w fun e w' => ((∃ k : Nat, L[k]? = some s ∧ e = .returned (.int .i64 (k : Int))) ∨ (e = .returned (.int .i64 (-1)) ∧ ∀ k : Nat, L[k]? ≠ some s)) ∧ w' = w := by
  obtain ⟨n, hn⟩ : ∃ n, Hid (L.length = n) := ⟨_, rfl⟩
  rw [hn.out] at hl ⊢
  go_enter Tryd.func19, Tryd.ntmps19
  go_wp2_with fail
  go_loopw [5] (fun iv wr => ∃ j : Nat, j ≤ n ∧ iv = .int .i64 (j : Int) ∧ Hid (∀ k : Nat, k < j → L[k]? ≠ some s) ∧ wr = w) (fun iv _ => n - (intOf iv).toNat)
  case atStart => exact ⟨0, by omega, rfl, fun d hd => absurd hd (by omega), rfl⟩
  case round =>
    obtain ⟨j, hj, rfl, HN, rfl⟩ := hrel
    rename World => wr
    by_cases hjn : j < n
    · have j0 : (j : Int) < (n : Int) := by omega
      have j1 : (0 : Int) ≤ (j : Int) := by omega
      obtain ⟨x, hx⟩ : ∃ x, L[j]? = some x := ⟨_, List.getElem?_eq_getElem (by rw [hn.out]; exact hjn)⟩
      obtain ⟨b, o, rfl, _, hbl, hg⟩ := hS.at sv1_len _ x hx
      have hc : wr.cell? ⟨b, o + j, none⟩ = some (.string x) := by have := hg 0 _ rfl; simpa using this
      by_cases hk : x = s
      · subst hk
        have hd : (x.toList == x.toList) = true := by simp
        have HX := (show Hid (L[j]? = some x) from hx)
        clear hx HN hg hS
        go_wp2_with fail
        go_ret
        exact ⟨.inl ⟨j, HX.out, rfl⟩, rfl⟩
      · have hd : (x.toList == s.toList) = false := same_L x s _ (decide_eq_false (fun e => hk (bL_inj e)))
        have HN2 : Hid (∀ k : Nat, k < j + 1 → L[k]? ≠ some s) := fun k hk2 e => by
          rcases Nat.lt_or_ge k j with h | h
          · exact HN.out k h e
          · have h3 : k = j := by omega
            rw [h3, hx] at e
            exact hk (Option.some.inj e)
        have HS := (show Hid (Li sv1 0 (some ⟨b, o, none⟩) L wr) from hS)
        clear hx HN hk hg hS
        go_wp2_with fail
        exact ⟨⟨j + 1, by omega, by go_num, HN2, trivial⟩, by simp [intOf]; omega⟩
    · obtain rfl : j = n := by omega
      have HN2 : Hid (∀ k : Nat, L[k]? ≠ some s) := fun k e => by
        have := (List.getElem?_eq_some_iff.1 e).1
        rw [hn.out] at this
        exact HN.out k this e
      clear HN
      go_wp2_with fail
      go_ret
      exact ⟨.inr ⟨rfl, HN2.out⟩, rfl⟩

end Go.Proofs.YtiepdfngjfhadaaDoor
