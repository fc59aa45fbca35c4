/-
  The document's Least and Turn: what each call answers.
  The lists are of at most 300 entries.
-/
import Derived.Test.YtkppidcamhbddaaScB
namespace Go.Proofs.Ytkppidcamhbddaa
set_option maxRecDepth 10000
open Go.RowKit Go.Sort
set_option linter.unusedVariables false

def optV (o : Option Nat) : Value := .tuple #[.int .u64 ((o.getD 0 : Nat) : Int), .bool o.isSome]
theorem least_next (b : Nat) (any : Bool) (L : List En) (j : Nat) (x : En) (h : L[j]? = some x) : leastS b any (L.take (j + 1)) = if candS b any x = true then minS (leastS b any (L.take j)) x.se else leastS b any (L.take j) := by
  unfold leastS
  rw [List.take_add_one, h, List.foldl_append]
  rfl
set_option maxHeartbeats 8000000 in
theorem least_ok (L : List En) (b : Nat) (any : Bool) (la : Option Addr) (lc : Nat) (lm : L.length ≤ 300) (w : World) (hS : Li En.vals 0 la L w) :
    Calls Try.prog 19 #[.slice la L.length lc, .int .u64 (b : Int), .bool any] w fun e w' => e = .returned (optV (leastS b any L)) ∧ Below w.heap.size w w' := by
  obtain ⟨n, hn⟩ : ∃ n, Hid (L.length = n) := ⟨_, rfl⟩
  rw [hn.out] at lm ⊢
  go_enter Try.func19, Try.ntmps19
  go_wp2_with fail
  go_loopw [8, 9, 10] (fun bv fv iv wr => ∃ (j : Nat) (o : Option Nat), j ≤ n ∧ iv = .int .i64 j ∧ bv = .int .u64 ((o.getD 0 : Nat) : Int) ∧ fv = .bool o.isSome ∧ Hid (leastS b any (L.take j) = o) ∧ Below w.heap.size w wr) (fun _ _ iv _ => n - (intOf iv).toNat)
  case atStart => exact ⟨0, none, by omega, rfl, rfl, rfl, rfl, Below.refl _ _⟩
  case round =>
    obtain ⟨j, o, hj, rfl, rfl, rfl, HO, hB⟩ := hrel
    rename World => wr
    by_cases hjn : j < n
    · have j0 : (j : Int) < (n : Int) := by omega
      have j1 : (0 : Int) ≤ (j : Int) := by omega
      obtain ⟨x, hx⟩ : ∃ k, L[j]? = some k := ⟨_, List.getElem?_eq_getElem (by rw [hn.out]; exact hjn)⟩
      obtain ⟨g, q, rfl, _, hbl, hr⟩ := (hS.below hB).at En.vals_length j x hx
      have c1 : wr.cell? ⟨g, q + j * 6 + 3, none⟩ = some (.int .u64 (x.se : Int)) := hr 3 _ rfl
      have HL : Hid (leastS b any (L.take (j + 1)) = if candS b any x = true then minS o x.se else o) := by show _ = _; rw [least_next b any L j x hx, HO.out]
      clear hx hr
      cases hc : candS b any x with
      | false =>
        have h1 : any = false ∧ ¬ b < x.se := by unfold candS at hc; simpa using hc
        obtain ⟨rfl, h1⟩ := h1
        have d1 : ¬ (b : Int) < (x.se : Int) := by omega
        have HN : Hid (leastS b false (L.take (j + 1)) = o) := by show _ = _; rw [HL.out, hc]; rfl
        clear h1 hc HL
        go_wp2_with fail
        exact ⟨⟨j + 1, o, by omega, by go_num, rfl, rfl, HN.out, hB⟩, by simp [intOf]; omega⟩
      | true =>
        have HM : Hid (leastS b any (L.take (j + 1)) = minS o x.se) := by show _ = _; rw [HL.out, if_pos hc]
        clear HL
        cases o with
        | none =>
          have HN : Hid (leastS b any (L.take (j + 1)) = some x.se) := HM.out
          clear HM
          cases any with
          | true =>
            clear hc
            go_wp2_with fail
            exact ⟨⟨j + 1, some x.se, by omega, by go_num, rfl, rfl, HN.out, hB⟩, by simp [intOf]; omega⟩
          | false =>
            have d1 : (b : Int) < (x.se : Int) := by unfold candS at hc; simp at hc; omega
            clear hc
            go_wp2_with fail
            exact ⟨⟨j + 1, some x.se, by omega, by go_num, rfl, rfl, HN.out, hB⟩, by simp [intOf]; omega⟩
        | some m =>
          by_cases hlt : x.se < m
          · have d2 : (x.se : Int) < (m : Int) := by omega
            have HN : Hid (leastS b any (L.take (j + 1)) = some x.se) := by show _ = _; rw [HM.out, minS, if_pos hlt]
            clear HM hlt
            cases any with
            | true =>
              clear hc
              go_wp2_with fail
              exact ⟨⟨j + 1, some x.se, by omega, by go_num, rfl, rfl, HN.out, hB⟩, by simp [intOf]; omega⟩
            | false =>
              have d1 : (b : Int) < (x.se : Int) := by unfold candS at hc; simp at hc; omega
              clear hc
              go_wp2_with fail
              exact ⟨⟨j + 1, some x.se, by omega, by go_num, rfl, rfl, HN.out, hB⟩, by simp [intOf]; omega⟩
          · have d2 : ¬ (x.se : Int) < (m : Int) := by omega
            have HN : Hid (leastS b any (L.take (j + 1)) = some m) := by show _ = _; rw [HM.out, minS, if_neg hlt]
            clear HM hlt
            cases any with
            | true =>
              clear hc
              go_wp2_with fail
              exact ⟨⟨j + 1, some m, by omega, by go_num, rfl, rfl, HN.out, hB⟩, by simp [intOf]; omega⟩
            | false =>
              have d1 : (b : Int) < (x.se : Int) := by unfold candS at hc; simp at hc; omega
              clear hc
              go_wp2_with fail
              exact ⟨⟨j + 1, some m, by omega, by go_num, rfl, rfl, HN.out, hB⟩, by simp [intOf]; omega⟩
    · obtain rfl : j = n := by omega
      have e : L.take j = L := List.take_of_length_le (by rw [hn.out]; omega)
      rw [e] at HO
      go_wp2_with fail
      go_ret2
      rw [HO.out]
      exact ⟨rfl, hB⟩

set_option maxHeartbeats 8000000 in
theorem rturn_ok (L : List En) (l : Nat) (la : Option Addr) (lc : Nat) (lm : L.length ≤ 300) (w : World) (hS : Li En.vals 0 la L w) :
    Calls Try.prog 9 #[.slice la L.length lc, .int .u64 (l : Int)] w fun e w' => e = .returned (turnV (turnS L l)) ∧ Below w.heap.size w w' := by
  have p1 := fun v hv => least_ok L l false la lc lm v hv
  have p2 := fun v hv => least_ok L l true la lc lm v hv
  obtain ⟨n, hn⟩ : ∃ n, Hid (L.length = n) := ⟨_, rfl⟩
  rw [hn.out] at lm p1 p2 ⊢
  obtain ⟨o, ho⟩ : ∃ o, Hid (turnS L l = o) := ⟨_, rfl⟩
  rw [ho.out]
  have HW : Hid (turnS L l = (whoS L l).bind fun s => L.findIdx? (isSe s)) := rfl
  have HN0 : Hid (L = [] ∨ ∃ s, whoS L l = some s) := by
    by_cases h : L = []
    · exact .inl h
    · exact .inr (whoS_some l h)
  have hwho : whoS L l = (leastS l false L).or (leastS l true L) := rfl
  have HWho : Hid (whoS L l = (leastS l false L).or (leastS l true L)) := hwho
  clear hwho
  -- the search, from (s, ok) on
  go_enter Try.func9, Try.ntmps9
  go_wp2_with fail
  refine (p1 w hS).mono ?_
  rintro e w1 ⟨rfl, hb1⟩
  cases h1 : leastS l false L with
  | some s =>
    rw [show optV (some s) = .tuple #[.int .u64 (s : Int), .bool true] from rfl]
    have HS : Hid (whoS L l = some s) := by show _ = _; rw [HWho.out, h1]; rfl
    clear h1 HWho p1 p2
    go_wp2_with fail
    go_loopw [8] (fun iv wr => ∃ j : Nat, j ≤ n ∧ iv = .int .i64 j ∧ Hid (∀ k ∈ L.take j, isSe s k = false) ∧ wr = w1) (fun iv _ => n - (intOf iv).toNat)
    case atStart => exact ⟨0, by omega, rfl, by simp [Hid], rfl⟩
    case round =>
      obtain ⟨j, hj, rfl, H0, hwr⟩ := hrel
      rename World => wr
      replace hwr := hwr.symm
      subst hwr
      by_cases hjn : j < n
      · have j0 : (j : Int) < (n : Int) := by omega
        have j1 : (0 : Int) ≤ (j : Int) := by omega
        obtain ⟨x, hx⟩ : ∃ k, L[j]? = some k := ⟨_, List.getElem?_eq_getElem (by rw [hn.out]; exact hjn)⟩
        obtain ⟨g, q, rfl, _, hbl, hr⟩ := (hS.below hb1).at En.vals_length j x hx
        have c1 : w1.cell? ⟨g, q + j * 6 + 3, none⟩ = some (.int .u64 (x.se : Int)) := hr 3 _ rfl
        by_cases h1 : x.se = s
        · have ht : ((x.se : Int) == (s : Int)) = true := by simp [h1]
          have e : o = some j := by rw [← ho.out, HW.out, HS.out]; exact first_at (isSe s) L j x hx (by simp [isSe, h1]) H0.out
          subst e
          clear hx hr h1
          go_wp2_with fail
          go_ret2
          exact ⟨rfl, hb1⟩
        · have ht : ((x.se : Int) == (s : Int)) = false := by rw [beq_eq_false_iff_ne]; omega
          have H1 : Hid (∀ k ∈ L.take (j + 1), isSe s k = false) := fun k hk => by
            rw [List.take_add_one, hx] at hk
            rcases List.mem_append.1 hk with hk | hk
            · exact H0.out k hk
            · simp at hk; subst hk; simp [isSe, h1]
          clear hx hr h1
          go_wp2_with fail
          exact ⟨⟨j + 1, by omega, by go_num, H1.out, by first | rfl | trivial⟩, by simp [intOf]; omega⟩
      · exfalso
        obtain rfl : j = n := by omega
        obtain ⟨e, he, hes⟩ := whoS_mem HS.out
        have := H0.out e (by rw [List.take_of_length_le (by rw [hn.out]; omega)]; exact he)
        simp [isSe, hes] at this
  | none =>
    rw [show optV none = .tuple #[.int .u64 0, .bool false] from rfl]
    have p3 := p2 w1 (hS.below hb1)
    cases h2 : leastS l true L with
    | some s =>
      rw [h2, show optV (some s) = .tuple #[.int .u64 (s : Int), .bool true] from rfl] at p3
      have HS : Hid (whoS L l = some s) := by show _ = _; rw [HWho.out, h1, h2]; rfl
      clear h1 h2 HWho p1 p2
      go_wp2_with fail
      refine p3.mono ?_
      rintro e w2 ⟨rfl, hb2⟩
      replace hb1 := hb1.trans (hb2.mono hb1.size)
      clear hb2 p3
      go_wp2_with fail
      go_loopw [8] (fun iv wr => ∃ j : Nat, j ≤ n ∧ iv = .int .i64 j ∧ Hid (∀ k ∈ L.take j, isSe s k = false) ∧ wr = w2) (fun iv _ => n - (intOf iv).toNat)
      case atStart => exact ⟨0, by omega, rfl, by simp [Hid], rfl⟩
      case round =>
        obtain ⟨j, hj, rfl, H0, hwr⟩ := hrel
        rename World => wr
        replace hwr := hwr.symm
        subst hwr
        by_cases hjn : j < n
        · have j0 : (j : Int) < (n : Int) := by omega
          have j1 : (0 : Int) ≤ (j : Int) := by omega
          obtain ⟨x, hx⟩ : ∃ k, L[j]? = some k := ⟨_, List.getElem?_eq_getElem (by rw [hn.out]; exact hjn)⟩
          obtain ⟨g, q, rfl, _, hbl, hr⟩ := (hS.below hb1).at En.vals_length j x hx
          have c1 : w2.cell? ⟨g, q + j * 6 + 3, none⟩ = some (.int .u64 (x.se : Int)) := hr 3 _ rfl
          by_cases h1 : x.se = s
          · have ht : ((x.se : Int) == (s : Int)) = true := by simp [h1]
            have e : o = some j := by rw [← ho.out, HW.out, HS.out]; exact first_at (isSe s) L j x hx (by simp [isSe, h1]) H0.out
            subst e
            clear hx hr h1
            go_wp2_with fail
            go_ret2
            exact ⟨rfl, hb1⟩
          · have ht : ((x.se : Int) == (s : Int)) = false := by rw [beq_eq_false_iff_ne]; omega
            have H1 : Hid (∀ k ∈ L.take (j + 1), isSe s k = false) := fun k hk => by
              rw [List.take_add_one, hx] at hk
              rcases List.mem_append.1 hk with hk | hk
              · exact H0.out k hk
              · simp at hk; subst hk; simp [isSe, h1]
            clear hx hr h1
            go_wp2_with fail
            exact ⟨⟨j + 1, by omega, by go_num, H1.out, by first | rfl | trivial⟩, by simp [intOf]; omega⟩
        · exfalso
          obtain rfl : j = n := by omega
          obtain ⟨e, he, hes⟩ := whoS_mem HS.out
          have := H0.out e (by rw [List.take_of_length_le (by rw [hn.out]; omega)]; exact he)
          simp [isSe, hes] at this
    | none =>
      rw [h2, show optV none = .tuple #[.int .u64 0, .bool false] from rfl] at p3
      have hL0 : L = [] := by
        rcases HN0.out with h | ⟨s, h⟩
        · exact h
        · rw [HWho.out, h1, h2] at h; cases h
      have hn0 : n = 0 := by rw [← hn.out, hL0]; rfl
      subst hn0
      have ho0 : o = none := by rw [← ho.out, hL0]; exact turnS_none l
      subst ho0
      clear h1 h2 HWho p1 p2 hL0
      go_wp2_with fail
      refine p3.mono ?_
      rintro e w2 ⟨rfl, hb2⟩
      replace hb1 := hb1.trans (hb2.mono hb1.size)
      clear hb2 p3
      go_wp2_with fail
      go_loopw [8] (fun iv wr => iv = .int .i64 0 ∧ wr = w2) (fun _ _ => 0)
      case atStart => exact ⟨rfl, rfl⟩
      case round =>
        obtain ⟨rfl, rfl⟩ := hrel
        go_wp2_with fail
        go_ret2
        exact ⟨rfl, hb1⟩

end Go.Proofs.Ytkppidcamhbddaa
