/-
  Lists of bytes; the document's code and call: what each answers.
  Each theorem says its own conditions.
-/
import Derived.Test.YtehmcncclpimjaaDoorAuI
import Derived.Test.YtehmcncclpimjaaDoorLw
namespace Go.Proofs.YtehmcncclpimjaaDoor
set_option maxRecDepth 10000
open Go.RowKit Go.Sort
set_option linter.unusedVariables false
set_option linter.unusedSimpArgs false

def codV (s : ByteArray) : Int × Bool := match bL s with
  | 45 :: l => (IntKind.i64.wrap (-((numV (strB l)).1 : Int)), (numV (strB l)).2 && decide (0 < (numV (strB l)).1) && decide ((numV (strB l)).1 ≤ 9223372036854775808))
  | _ => (IntKind.i64.wrap ((numV s).1 : Int), (numV s).2 && decide ((numV s).1 ≤ 9223372036854775807))
theorem codV_45 {s : ByteArray} {l : List UInt8} (h : bL s = 45 :: l) : codV s = (IntKind.i64.wrap (-((numV (strB l)).1 : Int)), (numV (strB l)).2 && decide (0 < (numV (strB l)).1) && decide ((numV (strB l)).1 ≤ 9223372036854775808)) := by
  unfold codV
  split
  · rename_i l' e
    rw [h] at e
    cases e
    rfl
  · rename_i hne
    exact absurd h (hne l)
theorem codV_ne {s : ByteArray} (h : ∀ l, bL s ≠ 45 :: l) : codV s = (IntKind.i64.wrap ((numV s).1 : Int), (numV s).2 && decide ((numV s).1 ≤ 9223372036854775807)) := by
  unfold codV
  split
  · rename_i l e
    exact absurd e (h l)
  · rfl
theorem codV_sgns {s : ByteArray} {k : Int} (h0 : -9223372036854775808 ≤ k) (h1 : k ≤ 9223372036854775807) (h : bL s = sgns k) : codV s = (k, true) := by
  unfold sgns at h
  split at h
  · rw [codV_45 h, numV_digs (m := k.natAbs) (by omega) rfl]
    simp only [Bool.true_and, Prod.mk.injEq, Bool.and_eq_true, decide_eq_true_eq]
    exact ⟨by rw [IntKind.wrap_i64]; omega, by omega, by omega⟩
  · rw [codV_ne (fun l e => by
      obtain ⟨b, r, h2, _⟩ := digs_head k.natAbs
      rw [h, h2] at e
      exact dig_ne45 (digs_is k.natAbs b (by rw [h2]; simp)) (List.cons.inj e).1), numV_digs (m := k.natAbs) (by omega) h]
    simp only [Bool.true_and, Prod.mk.injEq, decide_eq_true_eq]
    exact ⟨by rw [IntKind.wrap_i64]; omega, by omega⟩
theorem codV_rng (s : ByteArray) : -9223372036854775808 ≤ (codV s).1 ∧ (codV s).1 ≤ 9223372036854775807 := by
  unfold codV
  split <;> (simp only; rw [IntKind.wrap_i64]; omega)

set_option maxHeartbeats 4000000 in
theorem code_ok (s : ByteArray) (hs : s.size ≤ 9223372036854775806) (w : World) : Calls Tryd.prog 30 #[.string s] w fun e w' => e = .returned (.tuple #[.int .i64 (codV s).1, .bool (codV s).2]) ∧ w' = w := by
  have hl := bL_len s
  have pn := number_ok s hs w
  have hlt := numV_lt s
  by_cases h45 : ∃ l, bL s = 45 :: l
  · obtain ⟨l, h⟩ := h45
    have hc := codV_45 h
    have hs0 : 1 ≤ s.size := by rw [← hl, h]; simp
    have hix : ∀ W, (Instr.index 9 (.string s) (.int .i64 0)).run Tryd.prog W = .ok (.int .u8 45) W := fun W => str_ix (c := s) (j := 0) (x := 45) (by rw [h]; rfl) W
    have hsl := sl_drop s 1 hs0 .i64 1 rfl
    rw [h, List.drop_one, List.tail_cons] at hsl
    have pm := number_ok (strB l) (by rw [strB_size]; have := congrArg List.length h; rw [List.length_cons] at this; omega) w
    have hlm := numV_lt (strB l)
    rw [hc]
    generalize numV (strB l) = N at pm hlm ⊢
    obtain ⟨m, ok⟩ := N
    simp only at pm hlm ⊢
    have d0 : (0 : Int) < (s.size : Int) := by omega
    have hwr : IntKind.i64.wrap (IntKind.u64.wrap (0 - (m : Int))) = IntKind.i64.wrap (-(m : Int)) := by simp only [IntKind.wrap_u64, IntKind.wrap_i64]; omega
    have hwr2 : IntKind.i64.wrap (IntKind.u64.wrap (-(m : Int))) = IntKind.i64.wrap (-(m : Int)) := by simp only [IntKind.wrap_u64, IntKind.wrap_i64]; omega
    generalize hQ : IntKind.i64.wrap (-(m : Int)) = Q at hwr hwr2 ⊢
    clear hQ pn hlt hc h hl
    cases ok with
    | false =>
      go_enter Tryd.func30, Tryd.ntmps30
      go_wp2_with fail
      refine pm.mono ?_
      rintro e w1 ⟨rfl, rfl⟩
      go_wp2_with fail
      go_ret2
      exact ⟨rfl, rfl⟩
    | true =>
      by_cases hm0 : 0 < m
      · have d1 : (0 : Int) < (m : Int) := by omega
        have hd2 : decide ((m : Int) ≤ 9223372036854775808) = decide (m ≤ 9223372036854775808) := by rw [decide_eq_decide]; omega
        rw [decide_eq_true hm0]
        generalize decide (m ≤ 9223372036854775808) = ok2 at hd2 ⊢
        go_enter Tryd.func30, Tryd.ntmps30
        go_wp2_with fail
        refine pm.mono ?_
        rintro e w1 ⟨rfl, rfl⟩
        go_wp2_with fail
        go_ret2
        exact ⟨rfl, rfl⟩
      · obtain rfl : m = 0 := by omega
        have hQ0 : Q = 0 := by rw [← hwr2]; rfl
        subst hQ0
        clear hwr hwr2 hm0
        go_enter Tryd.func30, Tryd.ntmps30
        go_wp2_with fail
        refine pm.mono ?_
        rintro e w1 ⟨rfl, rfl⟩
        go_wp2_with fail
        go_ret2
        exact ⟨rfl, rfl⟩
  · have hc := codV_ne (s := s) (fun l e => h45 ⟨l, e⟩)
    rw [hc]
    have hx : s.size = 0 ∨ (0 < s.size ∧ ∃ x : UInt8, (bL s)[0]? = some x ∧ x ≠ 45) := by
      cases h : bL s with
      | nil => exact .inl (by rw [← hl, h]; rfl)
      | cons x l => exact .inr ⟨by rw [← hl, h]; simp, x, rfl, fun e => h45 ⟨l, by rw [h, e]⟩⟩
    generalize numV s = N at pn hlt ⊢
    obtain ⟨m, ok⟩ := N
    simp only at pn hlt ⊢
    generalize hQ : IntKind.i64.wrap (m : Int) = Q
    have hQ' : IntKind.i64.wrap (m : Int) = Q := hQ
    clear hQ hc h45
    rcases hx with hx | ⟨hx, x, h0, h45⟩
    · have d0 : ¬ (0 : Int) < (s.size : Int) := by omega
      clear hx hl hs
      cases ok with
      | false =>
        go_enter Tryd.func30, Tryd.ntmps30
        go_wp2_with fail
        refine pn.mono ?_
        rintro e w1 ⟨rfl, rfl⟩
        go_wp2_with fail
        go_ret2
        exact ⟨rfl, rfl⟩
      | true =>
        have hd2 : decide ((m : Int) ≤ 9223372036854775807) = decide (m ≤ 9223372036854775807) := by rw [decide_eq_decide]; omega
        generalize decide (m ≤ 9223372036854775807) = ok2 at hd2 ⊢
        go_enter Tryd.func30, Tryd.ntmps30
        go_wp2_with fail
        refine pn.mono ?_
        rintro e w1 ⟨rfl, rfl⟩
        go_wp2_with fail
        go_ret2
        exact ⟨rfl, rfl⟩
    · have d0 : (0 : Int) < (s.size : Int) := by omega
      have hix : ∀ W, (Instr.index 9 (.string s) (.int .i64 0)).run Tryd.prog W = .ok (.int .u8 (x.toNat : Int)) W := fun W => str_ix h0 W
      have dx : ((x.toNat : Int) == 45) = false := by
        have : ¬ x.toNat = 45 := fun k => h45 (UInt8.toNat_inj.1 k)
        simp; omega
      have dx2 : ¬ (x.toNat : Int) = 45 := by simpa using dx
      clear hl hs h0
      cases ok with
      | false =>
        go_enter Tryd.func30, Tryd.ntmps30
        go_wp2_with fail
        refine pn.mono ?_
        rintro e w1 ⟨rfl, rfl⟩
        go_wp2_with fail
        go_ret2
        exact ⟨rfl, rfl⟩
      | true =>
        have hd2 : decide ((m : Int) ≤ 9223372036854775807) = decide (m ≤ 9223372036854775807) := by rw [decide_eq_decide]; omega
        generalize decide (m ≤ 9223372036854775807) = ok2 at hd2 ⊢
        go_enter Tryd.func30, Tryd.ntmps30
        go_wp2_with fail
        refine pn.mono ?_
        rintro e w1 ⟨rfl, rfl⟩
        go_wp2_with fail
        go_ret2
        exact ⟨rfl, rfl⟩

def f8 (b : UInt8) : List Value := [.int .u8 (b.toNat : Int)]
theorem f8_len (b : UInt8) : (f8 b).length = 1 := rfl
theorem f8_one (b : UInt8) : ∀ v ∈ f8 b, v.oneCell' = true := by
  intro v hv
  simp [f8] at hv
  subst hv; rfl
theorem info8 : ∃ i z, Tryd.prog.info? 5 = some i ∧ i.zero = some z ∧ i.size = 1 ∧ i.bytes = 1 ∧ z.cells.size = 1 := by
  have h : (Tryd.prog.info? 5).map (fun i => (i.zero, i.size, i.bytes)) = some (some (.int .u8 0), 1, 1) := by kernel_rfl
  obtain ⟨i, hi, h0, h1, h2⟩ := info_parts h
  exact ⟨i, _, hi, h0, h1, h2, rfl⟩
theorem bs8 (x : Int) (w : World) : (Instr.buildSlice 56 1 #[(0, .int .u8 x)]).run Tryd.prog w = .ok (.slice (some ⟨w.heap.size, 0, none⟩) 1 1) (w.alloc (.cells #[.int .u8 x] 5)) := by kernel_rfl
theorem box_8 {ops : Array Oper} {rest : List Oper} {op : Oper} {a : Act} {w : World} {Q : Exit → Act → World → Prop} (hgd : op.guard = none) (x : Operand) (ho : op.op = .buildSlice 56 1 #[(0, x)]) (e : UInt8) {v : Int} (hx : a.eval x = .int .u8 v) (hv : v = (e.toNat : Int))
    (h : ∀ W, Li f8 w.heap.size (some ⟨w.heap.size, 0, none⟩) [e] W → Below w.heap.size w W → wpList Tryd.prog ops Q rest (a.put op.dst (.slice (some ⟨w.heap.size, 0, none⟩) 1 1)) W) : wpList Tryd.prog ops Q (op :: rest) a w :=
  wpList_plain hgd fun _ hK => by
    subst hv
    have hk := hK _ _ (h _ (li_box (f := f8) w e 5 _ (Nat.le_refl _)) (below_box w _))
    unfold Oper.wp execOp
    simp only [ho, List.map_toArray, List.map_cons, List.map_nil, hx, Sem.run_bind, Sem.run_pure, bs8, Result.andThen_ok]
    exact hk
theorem wp_8 {op : Oper} {a : Act} {w : World} {K : Act → World → Prop} {Q : Exit → Act → World → Prop} (x : Operand) (ho : op.op = .buildSlice 56 1 #[(0, x)]) (e : UInt8) {v : Int} (hx : a.eval x = .int .u8 v) (hv : v = (e.toNat : Int))
    (h : ∀ g W, Li f8 0 (some ⟨g, 0, none⟩) [e] W → Below w.heap.size w W → K (a.put op.dst (.slice (some ⟨g, 0, none⟩) 1 1)) W) : op.wp Tryd.prog a w K Q := by
  subst hv
  have hk := h _ _ (li_box (f := f8) w e 5 0 (Nat.zero_le _)) (below_box w _)
  unfold Oper.wp execOp
  simp only [ho, List.map_toArray, List.map_cons, List.map_nil, hx, Sem.run_bind, Sem.run_pure, bs8, Result.andThen_ok]
  exact hk
theorem conv_nil (w : World) : (convert 56 9 (.slice none 0 0)).run Tryd.prog w = .ok (.string (strB [])) w := by kernel_rfl
theorem conv_8 {B c : Nat} {a : Option Addr} {L : List UInt8} {w : World} (h : Lg f8 1 5 B a c L w) : (convert 56 9 (.slice a L.length c)).run Tryd.prog w = .ok (.string (strB L)) w := by
  rcases h with ⟨rfl, rfl, rfl⟩ | ⟨g, rfl, hB, hO⟩
  · exact conv_nil w
  · have hL := hO.li (Nat.zero_le _)
    refine run_convert_bytes_back (P := Tryd.prog) w 56 9 5 ⟨g, 0, none⟩ c L Tryd.underlying56 Tryd.underlying5 Tryd.underlying9 (fun j hj => ?_)
    have hr := hL.rng f8_len j L[j] (List.getElem?_eq_getElem hj)
    have h0 : w.cell? ⟨g, 0 + j * 1 + 0, none⟩ = some (.int .u8 (L[j].toNat : Int)) := hr 0 _ rfl
    rw [Nat.mul_one] at h0
    rw [Lib.add_plain]
    exact h0


end Go.Proofs.YtehmcncclpimjaaDoor
