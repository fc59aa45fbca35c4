/-
  Whether an entry, a frame, a packet may be, as the document's own calls say (congressref03.May, congressref04.Check, congressref05.Check).
  No condition.
-/
import Derived.Test.YthgmecgknhphmaaCeK
namespace Go.Proofs.Ythgmecgknhphmaa
set_option maxRecDepth 10000
open Go.RowKit Go.Sort
set_option linter.unusedVariables false

def addrE (g : Int) (se n : Nat) : Bool := decide (0 ≤ g) && decide (g < 8) && decide (se < 256 ^ 2) && decide (n < 256 ^ 4)
def mayI (k sv g : Int) (se n : Nat) (t : ByteArray) : Bool :=
  if k = 0 then decide (sv = 0) && decide (g = 0) && decide (se = 0) && decide (n = 0) && decide (t.size = 0)
  else if k = 1 then decide (0 ≤ sv) && decide (sv < 4) && decide (t.size ≤ 16) && addrE g se n
  else if k = 2 ∨ k = 3 then decide (sv = 2) && decide (t.size = 0) && addrE g se n
  else false
def En.may (e : En) : Bool := mayI e.k e.sv e.g e.se e.n e.t
def frMay (F : Nat → En) : Bool := (List.range 6).all fun i => (F i).may
theorem frMay_all (F : Nat → En) : frMay F = true ↔ ∀ x, x < 6 → (F x).may = true := by
  rw [frMay, List.all_eq_true]
  constructor
  · exact fun h x hx => h x (List.mem_range.2 hx)
  · exact fun h x hx => h x (List.mem_range.1 hx)
theorem frMay_no : frMay noFr = true := (frMay_all _).2 fun x _ => rfl
theorem frc_part (F : Nat → En) (x o : Nat) (hx : x < 6) (ho : o = 6 * x) : ((frc F).extract o (o + (F x).vals.length)).toList = (F x).vals := by
  subst ho
  match x, hx with
  | 0, _ => rfl
  | 1, _ => rfl
  | 2, _ => rfl
  | 3, _ => rfl
  | 4, _ => rfl
  | 5, _ => rfl
theorem ret_bool {s t : Bool} (h : s = t) : Ending.returned (.bool s) = .returned (.bool t) := by rw [h]
theorem empty_size (t : ByteArray) : (t.toList = []) = (t.size = 0) := by
  apply propext
  rw [ByteArray.toList_eq]
  constructor
  · intro e
    have : t.data.toList.length = 0 := by rw [e]; rfl
    rwa [Array.length_toList] at this
  · intro e
    exact List.eq_nil_of_length_eq_zero (by rw [Array.length_toList]; exact e)

set_option maxHeartbeats 1000000 in
theorem rmay_0 (sv g : Int) (se n : Nat) (t : ByteArray) (w : World) : Calls Try.prog 59 #[.agg #[.int .i64 0, .int .i64 sv, .int .i64 g, .int .u64 (se : Int), .int .u64 (n : Int), .string t]] w fun e w' => e = .returned (.bool (mayI 0 sv g se n t)) ∧ Below w.heap.size w w' := by
  go_enter Try.func59, Try.ntmps59
  go_wp2_with fail
  all_goals go_ret
  all_goals refine ⟨ret_bool ?_, below_box _ _⟩
  all_goals rw [Bool.eq_iff_iff]
  all_goals try simp only [List.isEmpty_iff, empty_size]
  all_goals unfold mayI addrE
  all_goals (first | (simp_all; done) | (simp_all; omega) | (have h0 : ¬ t.size = 0 := (by omega); simp [h0]))

set_option maxHeartbeats 1000000 in
theorem rmay_1 (sv g : Int) (se n : Nat) (t : ByteArray) (w : World) : Calls Try.prog 59 #[.agg #[.int .i64 1, .int .i64 sv, .int .i64 g, .int .u64 (se : Int), .int .u64 (n : Int), .string t]] w fun e w' => e = .returned (.bool (mayI 1 sv g se n t)) ∧ Below w.heap.size w w' := by
  go_enter Try.func59, Try.ntmps59
  go_wp2_with fail
  all_goals go_ret
  all_goals refine ⟨ret_bool ?_, below_box _ _⟩
  all_goals rw [Bool.eq_iff_iff]
  all_goals try simp only [decide_eq_true_iff]
  all_goals unfold mayI addrE
  all_goals (first | (simp_all; done) | (simp_all; omega) | (have h0 : ¬ t.size = 0 := (by omega); simp [h0]))

set_option maxHeartbeats 1000000 in
theorem rmay_2 (sv g : Int) (se n : Nat) (t : ByteArray) (w : World) : Calls Try.prog 59 #[.agg #[.int .i64 2, .int .i64 sv, .int .i64 g, .int .u64 (se : Int), .int .u64 (n : Int), .string t]] w fun e w' => e = .returned (.bool (mayI 2 sv g se n t)) ∧ Below w.heap.size w w' := by
  go_enter Try.func59, Try.ntmps59
  go_wp2_with fail
  all_goals go_ret
  all_goals refine ⟨ret_bool ?_, below_box _ _⟩
  all_goals rw [Bool.eq_iff_iff]
  all_goals try simp only [List.isEmpty_iff, empty_size]
  all_goals unfold mayI addrE
  all_goals (first | (simp_all; done) | (simp_all; omega) | (have h0 : ¬ t.size = 0 := (by omega); simp [h0]))

set_option maxHeartbeats 1000000 in
theorem rmay_3 (sv g : Int) (se n : Nat) (t : ByteArray) (w : World) : Calls Try.prog 59 #[.agg #[.int .i64 3, .int .i64 sv, .int .i64 g, .int .u64 (se : Int), .int .u64 (n : Int), .string t]] w fun e w' => e = .returned (.bool (mayI 3 sv g se n t)) ∧ Below w.heap.size w w' := by
  go_enter Try.func59, Try.ntmps59
  go_wp2_with fail
  all_goals go_ret
  all_goals refine ⟨ret_bool ?_, below_box _ _⟩
  all_goals rw [Bool.eq_iff_iff]
  all_goals try simp only [List.isEmpty_iff, empty_size]
  all_goals unfold mayI addrE
  all_goals (first | (simp_all; done) | (simp_all; omega) | (have h0 : ¬ t.size = 0 := (by omega); simp [h0]))

theorem rmay_other (k sv g : Int) (se n : Nat) (t : ByteArray) (h0 : ¬ k = 0) (h1 : ¬ k = 1) (h2 : ¬ k = 2) (h3 : ¬ k = 3) (w : World) :
    Calls Try.prog 59 #[.agg #[.int .i64 k, .int .i64 sv, .int .i64 g, .int .u64 (se : Int), .int .u64 (n : Int), .string t]] w fun e w' => e = .returned (.bool (mayI k sv g se n t)) ∧ Below w.heap.size w w' := by
  have hm : mayI k sv g se n t = false := by
    unfold mayI
    rw [if_neg h0, if_neg h1, if_neg (by omega)]
  rw [hm]
  have c0 : (k == 0) = false := by rw [beq_eq_false_iff_ne]; exact h0
  have c1 : (k == 1) = false := by rw [beq_eq_false_iff_ne]; exact h1
  have c2 : (k == 2) = false := by rw [beq_eq_false_iff_ne]; exact h2
  have c3 : (k == 3) = false := by rw [beq_eq_false_iff_ne]; exact h3
  clear hm h0 h1 h2 h3
  go_enter Try.func59, Try.ntmps59
  go_wp2_with fail
  all_goals go_ret
  all_goals exact ⟨rfl, below_box _ _⟩

theorem rmay_ok (e : En) (w : World) : Calls Try.prog 59 #[.agg e.arr] w fun r w' => r = .returned (.bool e.may) ∧ Below w.heap.size w w' := by
  obtain ⟨k, sv, g, se, n, t⟩ := e
  show Calls Try.prog 59 #[.agg #[.int .i64 k, .int .i64 sv, .int .i64 g, .int .u64 (se : Int), .int .u64 (n : Int), .string t]] w fun e w' => e = .returned (.bool (mayI k sv g se n t)) ∧ Below w.heap.size w w'
  by_cases h0 : k = 0
  · subst h0; exact rmay_0 sv g se n t w
  by_cases h1 : k = 1
  · subst h1; exact rmay_1 sv g se n t w
  by_cases h2 : k = 2
  · subst h2; exact rmay_2 sv g se n t w
  by_cases h3 : k = 3
  · subst h3; exact rmay_3 sv g se n t w
  exact rmay_other k sv g se n t h0 h1 h2 h3 w

set_option maxHeartbeats 1000000 in
theorem rfrck_ok (F : Nat → En) (w : World) : Calls Try.prog 27 #[.agg (frc F)] w fun r w' => r = .returned (.int .i64 (if frMay F then 0 else 30)) ∧ Below w.heap.size w w' := by
  obtain ⟨c, hc⟩ : ∃ c : Int, Hid ((if frMay F then 0 else 30) = c) := ⟨_, rfl⟩
  rw [hc.out]
  go_enter Try.func27, Try.ntmps27
  go_wp2_with fail
  go_loopw [3] (fun i w' => ∃ m : Nat, m ≤ 3 ∧ i = .int .i64 m ∧ Below w.heap.size w w' ∧ Blk w.heap.size (frc F) 41 w' ∧ Hid (∀ x, x < 2 * m → (F x).may = true)) (fun i _ => 3 - (intOf i).toNat)
  case atStart => exact ⟨0, by omega, rfl, below_box _ _, blk_new w (frc F) 41, fun x hx => by omega⟩
  case round =>
    obtain ⟨m, hm, rfl, hb, hB, hall⟩ := hrel
    by_cases hlt : m < 3
    · have d1 : (m : Int) < 3 := by omega
      go_wp2_with fail
      go_loopw [4] (fun i w' => ∃ j : Nat, j ≤ 2 ∧ i = .int .i64 j ∧ Below w.heap.size w w' ∧ Blk w.heap.size (frc F) 41 w' ∧ Hid (∀ x, x < 2 * m + j → (F x).may = true)) (fun i _ => 2 - (intOf i).toNat)
      case atStart => exact ⟨0, by omega, rfl, hb, hB, fun x hx => hall.out x (by omega)⟩
      case round =>
        clear hb hall hB
        obtain ⟨j, hj, rfl, hb, hB, hall⟩ := hrel
        by_cases hjl : j < 2
        · have hpart := frc_part F (2 * m + j) (m * 12 + j * 6) (by omega) (by omega)
          generalize he : F (2 * m + j) = e at hpart
          go_wp2_with (refine load_part rfl 38 _ rfl hB rfl e.vals hpart Try.underlying38 rfl sizeEn ?_)
          refine (rmay_ok e _).mono ?_
          rintro r w2 ⟨rfl, hb2⟩
          have hB2 := hB.below hb2
          have hb3 := hb.trans (hb2.mono hb.size)
          clear hb hb2 hB
          cases hmay : e.may
          · have hno : frMay F = false := by
              cases hc : frMay F
              · rfl
              · have := (frMay_all F).1 hc (2 * m + j) (by omega)
                rw [he, hmay] at this
                cases this
            go_wp2_with fail
            go_ret
            exact ⟨by rw [← hc.out, hno]; rfl, hb3⟩
          · go_wp2_with fail
            go_roundw
            case measure => simp [intOf]; omega
            refine ⟨j + 1, by omega, by go_num, hb3, hB2, fun x hx => ?_⟩
            rcases Nat.lt_or_ge x (2 * m + j) with h | h
            · exact hall.out x h
            · obtain rfl : x = 2 * m + j := by omega
              rw [he]; exact hmay
        · go_wp2_with fail
          go_roundw
          case measure => simp [intOf]; omega
          exact ⟨m + 1, by omega, by go_num, hb, hB, fun x hx => hall.out x (by omega)⟩
    · have hyes : frMay F = true := (frMay_all F).2 fun x hx => hall.out x (by omega)
      go_wp2_with fail
      go_ret
      exact ⟨by rw [← hc.out, hyes]; rfl, hb⟩

theorem Pw.p_f2 (x : Pw) : ((pwc x).extract 109 (109 + (frv x.f2).length)).toList = frv x.f2 := by kernel_rfl
def Pw.may (x : Pw) : Bool := (decide (x.fr < 8) && (decide (x.ro < 8) && (decide (x.conf.c < 8) && decide (x.pr.c < 8)))) && (frMay x.f0 && (frMay x.f1 && frMay x.f2))
set_option maxHeartbeats 2000000 in
theorem rpkck_ok (x : Pw) (w : World) : Calls Try.prog 26 #[.agg (pwc x)] w fun e w' => e = .returned (.int .i64 (if x.may then 0 else 52)) ∧ Below w.heap.size w w' := by
  obtain ⟨c, hc⟩ : ∃ c : Int, Hid ((if x.may then 0 else 52) = c) := ⟨_, rfl⟩
  rw [hc.out]
  obtain ⟨w0, hw0⟩ : ∃ w0, w.alloc (.cells (pwc x) 50) = w0 := ⟨_, rfl⟩
  have B0 : Blk w.heap.size (pwc x) 50 w0 := by rw [← hw0]; exact blk_new w _ _
  have b0 : Below w.heap.size w w0 := by rw [← hw0]; exact below_box _ _
  have c0 := B0.cell 0 (.int .u32 (x.fr : Int)) rfl
  have c1 := B0.cell 107 (.int .u32 (x.ro : Int)) rfl
  have c2 := B0.cell 3 (.int .u32 (x.conf.c : Int)) rfl
  have c3 := B0.cell 22 (.int .u32 (x.pr.c : Int)) rfl
  by_cases hd : (decide (x.fr < 8) && (decide (x.ro < 8) && (decide (x.conf.c < 8) && decide (x.pr.c < 8)))) = true
  · have hm : Hid (x.may = (frMay x.f0 && (frMay x.f1 && frMay x.f2))) := by unfold Hid Pw.may; rw [hd]; rfl
    simp only [Bool.and_eq_true, decide_eq_true_eq] at hd
    obtain ⟨h0, h1, h2, h3⟩ := hd
    have g0 : ¬ (7 : Int) < (x.fr : Int) := by omega
    have g1 : ¬ (7 : Int) < (x.ro : Int) := by omega
    have g2 : ¬ (7 : Int) < (x.conf.c : Int) := by omega
    have g3 : ¬ (7 : Int) < (x.pr.c : Int) := by omega
    clear h0 h1 h2 h3
    have k0 := fun w => rfrck_ok x.f0 w
    have k1 := fun w => rfrck_ok x.f1 w
    have k2 := fun w => rfrck_ok x.f2 w
    go_enter Try.func26, Try.ntmps26
    go_wp2_with (refine load_part (o := 35) rfl 41 _ rfl B0 rfl (frv x.f0) x.p_f0 Try.underlying41 rfl sizeFr ?_)
    refine (k0 _).mono ?_
    rintro e w1 ⟨rfl, hb1⟩
    have B1 := B0.below hb1
    have b1 := b0.trans (hb1.mono b0.size)
    clear hb1 B0 b0 c0 c1 c2 c3 g0 g1 g2 g3 k0 hw0
    cases m0 : frMay x.f0
    · have hcc : c = 52 := by rw [← hc.out, hm.out, m0]; rfl
      go_wp2_with fail
      go_ret
      exact ⟨by first | rfl | (rw [hcc]; rfl), b1⟩
    · go_wp2_with (refine load_wpart (o := 71) (by rfl) 41 _ rfl B1 rfl (frv x.f1) x.p_f1 Try.underlying41 rfl sizeFr ?_)
      refine (k1 _).mono ?_
      rintro e w2 ⟨rfl, hb2⟩
      have B2 := B1.below hb2
      have b2 := b1.trans (hb2.mono b1.size)
      clear hb2 B1 b1 k1
      cases m1 : frMay x.f1
      · have hcc : c = 52 := by rw [← hc.out, hm.out, m0, m1]; rfl
        go_wp2_with fail
        go_ret
        exact ⟨by first | rfl | (rw [hcc]; rfl), b2⟩
      · go_wp2_with (refine load_wpart (o := 109) (by rfl) 41 _ rfl B2 rfl (frv x.f2) x.p_f2 Try.underlying41 rfl sizeFr ?_)
        refine (k2 _).mono ?_
        rintro e w3 ⟨rfl, hb3⟩
        have b3 := b2.trans (hb3.mono b2.size)
        clear hb3 B2 b2 k2
        cases m2 : frMay x.f2
        · have hcc : c = 52 := by rw [← hc.out, hm.out, m0, m1, m2]; rfl
          go_wp2_with fail
          go_ret
          exact ⟨by first | rfl | (rw [hcc]; rfl), b3⟩
        · have hcc : c = 0 := by rw [← hc.out, hm.out, m0, m1, m2]; rfl
          go_wp2_with fail
          go_ret
          exact ⟨by first | rfl | (rw [hcc]; rfl), b3⟩
  · have hd2 := Bool.eq_false_iff.2 hd
    have hcc : c = 52 := by rw [← hc.out]; unfold Pw.may; rw [hd2]; rfl
    have hor : (7 < (x.fr : Int)) ∨ (¬ 7 < (x.fr : Int) ∧ 7 < (x.ro : Int)) ∨ (¬ 7 < (x.fr : Int) ∧ ¬ 7 < (x.ro : Int) ∧ 7 < (x.conf.c : Int)) ∨ (¬ 7 < (x.fr : Int) ∧ ¬ 7 < (x.ro : Int) ∧ ¬ 7 < (x.conf.c : Int) ∧ 7 < (x.pr.c : Int)) := by
      simp only [Bool.and_eq_true, decide_eq_true_eq] at hd
      omega
    clear hd hd2
    subst hcc
    rcases hor with g0 | ⟨g0, g1⟩ | ⟨g0, g1, g2⟩ | ⟨g0, g1, g2, g3⟩
    all_goals
      go_enter Try.func26, Try.ntmps26
      go_wp2_with fail
      go_ret
      exact ⟨rfl, b0⟩

def Pk.w (p : Pk) : Pw := ⟨p.n 0, p.n 1, p.conf, fun i => p.n (5 + i), fun i => p.n (13 + i), p.pr, p.want, p.r, p.n 33, p.n 34, p.f0, p.f1, p.n 107, p.n 108, p.f2⟩
theorem pkl_w (p : Pk) : pkl p = pwl p.w := by kernel_rfl

end Go.Proofs.Ythgmecgknhphmaa
