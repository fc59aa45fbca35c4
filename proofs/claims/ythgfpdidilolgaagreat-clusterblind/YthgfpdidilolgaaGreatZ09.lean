/-
  Of the texts beneath these laws, in their order: EntAll, FrMath.
  Each theorem says its own conditions.
-/
import Derived.Test.YthgfpdidilolgaaGreatZ08
import Derived.Lib.QuietBelow
import Derived.Deep.MidRow
import Derived.Deep.WholeRow
namespace Go.Proofs.YthgfpdidilolgaaGreat.Eld
set_option maxRecDepth 10000
namespace Ent
def addr (g : Int) (se n : Nat) : Bool := decide (0 ≤ g) && decide (g < 8) && decide (se < 256 ^ 2) && decide (n < 256 ^ 4)
def may (k sv g : Int) (se n : Nat) (t : ByteArray) : Bool :=
 if k = 0 then decide (sv = 0) && decide (g = 0) && decide (se = 0) && decide (n = 0) && decide (t.size = 0)
 else if k = 1 then decide (0 ≤ sv) && decide (sv < 4) && decide (t.size ≤ 16) && addr g se n
 else if k = 2 ∨ k = 3 then decide (sv = 2) && decide (t.size = 0) && addr g se n
 else false
def bytes (k sv g se n : Nat) (t : ByteArray) : ByteArray :=
 Pack.putB k 1 ++ Pack.putB sv 1 ++ Pack.putB g 1 ++ Pack.putB se 2 ++ Pack.putB n 4 ++ Pack.textB t 16 ++ ⟨#[0, 0]⟩
theorem addr_bounds {g : Int} {se n : Nat} (h : addr g se n = true) : 0 ≤ g ∧ g < 8 ∧ se < 65536 ∧ n < 4294967296 := by
 unfold addr at h
 simp only [Bool.and_eq_true, decide_eq_true_iff] at h
 obtain ⟨⟨⟨a, b⟩, c⟩, d⟩ := h
 exact ⟨a, b, c, d⟩
theorem may_bounds {k sv g : Int} {se n : Nat} {t : ByteArray} (h : may k sv g se n t = true) :
  0 ≤ k ∧ k < 4 ∧ 0 ≤ sv ∧ sv < 4 ∧ 0 ≤ g ∧ g < 8 ∧ se < 65536 ∧ n < 4294967296 ∧ t.size ≤ 16 := by
 unfold may at h
 split at h
 ·simp only [Bool.and_eq_true, decide_eq_true_iff] at h
  obtain ⟨⟨⟨⟨a, b⟩, c⟩, d⟩, e⟩ := h
  omega
 ·split at h
  ·simp only [Bool.and_eq_true, decide_eq_true_iff] at h
   obtain ⟨⟨⟨a, b⟩, c⟩, d⟩ := h
   have := addr_bounds d
   omega
  ·split at h
   ·simp only [Bool.and_eq_true, decide_eq_true_iff] at h
    obtain ⟨⟨a, b⟩, d⟩ := h
    have := addr_bounds d
    omega
   ·cases h
theorem may_nats {k sv g : Int} {se n : Nat} {t : ByteArray} (h : may k sv g se n t = true) :
  ∃ a b c : Nat, k = (a : Int) ∧ sv = (b : Int) ∧ g = (c : Int) ∧ a < 256 ∧ b < 256 ∧ c < 256 ∧ se < 256 ^ 2 ∧ n < 256 ^ 4 ∧ t.size ≤ 16 := by
 obtain ⟨h1, h2, h3, h4, h5, h6, h7, h8, h9⟩ := may_bounds h
 exact ⟨k.toNat, sv.toNat, g.toNat, by omega, by omega, by omega, by omega, by omega, by omega, h7, h8, h9⟩
theorem bytes_size (k sv g se n : Nat) (t : ByteArray) : (bytes k sv g se n t).size = 28 := by
 unfold bytes
 simp only [ByteArray.size_append, Pack.putB_size, Pack.textB_size]
 rfl
end Ent
end Go.Proofs.YthgfpdidilolgaaGreat.Eld
namespace Go.Proofs.YthgfpdidilolgaaGreat.Eld
set_option maxRecDepth 10000
open Go.RowKit
theorem equal_ent (k sv g : Int) (se n : Int) (t : ByteArray) (k' sv' g' : Int) (se' n' : Int) (t' : ByteArray) (w : World) :
  (Op.equal 40 (.agg #[.int .i64 k, .int .i64 sv, .int .i64 g, .int .u64 se, .int .u64 n, .string t]) (.agg #[.int .i64 k', .int .i64 sv', .int .i64 g', .int .u64 se', .int .u64 n', .string t'])).run Tryz.prog w
   = .ok (decide (k = k' ∧ sv = sv' ∧ g = g' ∧ se = se' ∧ n = n' ∧ t = t')) w := by
 by_cases h1 : k = k'
 ·by_cases h2 : sv = sv'
  ·by_cases h3 : g = g'
   ·by_cases h4 : se = se'
    ·by_cases h5 : n = n'
     ·by_cases h6 : t = t'
      ·simp [go_sem, Op.equal, Op.maxDepth, *]
      ·simp [go_sem, Op.equal, Op.maxDepth, *]
       intro e
       have := bytes_ne h6
       rw [e, beq_self_eq_true] at this
       cases this
     ·simp [go_sem, Op.equal, Op.maxDepth, *]
    ·simp [go_sem, Op.equal, Op.maxDepth, *]
   ·simp [go_sem, Op.equal, Op.maxDepth, *]
  ·simp [go_sem, Op.equal, Op.maxDepth, *]
 ·simp [go_sem, Op.equal, Op.maxDepth, *]
theorem eql_ent (k sv g : Int) (se n : Int) (t : ByteArray) (k' sv' g' : Int) (se' n' : Int) (t' : ByteArray) (b : Bool) (h : decide (k = k' ∧ sv = sv' ∧ g = g' ∧ se = se' ∧ n = n' ∧ t = t') = b) (w : World) :
  (binOp .eql 40 (.agg #[.int .i64 k, .int .i64 sv, .int .i64 g, .int .u64 se, .int .u64 n, .string t]) (.agg #[.int .i64 k', .int .i64 sv', .int .i64 g', .int .u64 se', .int .u64 n', .string t'])).run Tryz.prog w
   = .ok (.bool b) w := by
 simp only [binOp]
 simp [equal_ent, h]
end Go.Proofs.YthgfpdidilolgaaGreat.Eld
namespace Go.Proofs.YthgfpdidilolgaaGreat.Eld
set_option maxRecDepth 10000
open Go.RowKit
theorem isBelow_any (n m : Int) (w : World) : Calls Tryz.prog 157 #[.int .i64 n, .int .i64 m] w fun e w' => e = .returned (.bool (decide (0 ≤ n) && decide (n < m))) ∧ w' = w := by
 by_cases h1 : 0 ≤ n
 ·rw [decide_eq_true h1]
  go_enter Tryz.func157, Tryz.ntmps157
  go_wp2
  go_ret
  exact ⟨rfl, rfl⟩
 ·rw [decide_eq_false h1]
  go_enter Tryz.func157, Tryz.ntmps157
  go_wp2
  go_ret
  exact ⟨rfl, rfl⟩
theorem below_box (w : World) (o : Obj) : Below w.heap.size w (w.alloc o) := (Below.refl _ w).alloc (Nat.le_refl _) _
theorem isAddressed_any (k sv g : Int) (se n : Nat) (t : ByteArray) (w : World) :
  Calls Tryz.prog 158 #[.agg #[.int .i64 k, .int .i64 sv, .int .i64 g, .int .u64 (se : Int), .int .u64 (n : Int), .string t]] w fun e w' =>
   e = .returned (.bool (Ent.addr g se n)) ∧ Below w.heap.size w w' := by
 have h1 := fun w => isBelow_any g 8 w
 have h2 := fun w => fits_ok se 2 (by decide) (by decide) w
 have h3 := fun w => fits_ok n 4 (by decide) (by decide) w
 unfold Ent.addr
 generalize (decide (0 ≤ g) && decide (g < 8)) = a at h1 ⊢
 generalize decide (se < 256 ^ 2) = b at h2 ⊢
 generalize decide (n < 256 ^ 4) = c at h3 ⊢
 cases a
 ·go_enter Tryz.func158, Tryz.ntmps158
  go_wp2_with fail
  refine (h1 _).mono ?_
  rintro e w1 ⟨rfl, rfl⟩
  go_wp2_with fail
  go_ret
  exact ⟨rfl, below_box _ _⟩
 ·cases b
  ·go_enter Tryz.func158, Tryz.ntmps158
   go_wp2_with fail
   refine (h1 _).mono ?_
   rintro e w1 ⟨rfl, rfl⟩
   go_wp2_with fail
   refine (h2 _).mono ?_
   rintro e w1 ⟨rfl, rfl⟩
   go_wp2_with fail
   go_ret
   exact ⟨rfl, below_box _ _⟩
  ·go_enter Tryz.func158, Tryz.ntmps158
   go_wp2_with fail
   refine (h1 _).mono ?_
   rintro e w1 ⟨rfl, rfl⟩
   go_wp2_with fail
   refine (h2 _).mono ?_
   rintro e w1 ⟨rfl, rfl⟩
   go_wp2_with fail
   refine (h3 _).mono ?_
   rintro e w1 ⟨rfl, rfl⟩
   go_wp2_with fail
   go_ret
   exact ⟨rfl, below_box _ _⟩
theorem may_0 (sv g : Int) (se n : Nat) (t : ByteArray) : decide ((0 : Int) = 0 ∧ sv = 0 ∧ g = 0 ∧ (se : Int) = 0 ∧ (n : Int) = 0 ∧ t = ⟨#[]⟩) = Ent.may 0 sv g se n t := by
 unfold Ent.may
 rw [if_pos rfl]
 have h : (t = ⟨#[]⟩) = (t.size = 0) := propext ⟨fun e => by rw [e]; rfl, fun e => ByteArray.ext (Array.eq_empty_of_size_eq_zero e)⟩
 have h1 : ((se : Int) = 0) = (se = 0) := propext ⟨fun e => by omega, fun e => by omega⟩
 have h2 : ((n : Int) = 0) = (n = 0) := propext ⟨fun e => by omega, fun e => by omega⟩
 rw [Bool.eq_iff_iff]
 simp only [h, h1, h2, decide_eq_true_iff, Bool.and_eq_true]
 exact ⟨fun ⟨_, a, b, c, d, e⟩ => ⟨⟨⟨⟨a, b⟩, c⟩, d⟩, e⟩, fun ⟨⟨⟨⟨a, b⟩, c⟩, d⟩, e⟩ => ⟨trivial, a, b, c, d, e⟩⟩
theorem no_bytes {t : ByteArray} (h : ¬ t = ⟨#[]⟩) : (t.toList == []) = false := by
 rw [beq_eq_false_iff_ne, ByteArray.toList_eq]
 intro e
 exact h (ByteArray.ext (Array.ext' e))
theorem mayBe_0 (sv g : Int) (se n : Nat) (t : ByteArray) (w : World) :
  Calls Tryz.prog 125 #[.agg #[.int .i64 0, .int .i64 sv, .int .i64 g, .int .u64 (se : Int), .int .u64 (n : Int), .string t]] w fun e w' =>
   e = .returned (.bool (Ent.may 0 sv g se n t)) ∧ Below w.heap.size w w' := by
 have keq := eql_ent 0 sv g se n t 0 0 0 0 0 ⟨#[]⟩ _ (may_0 sv g se n t)
 generalize Ent.may 0 sv g se n t = b at keq ⊢
 go_enter Tryz.func125, Tryz.ntmps125
 go_wp2_with fail
 go_ret
 exact ⟨rfl, below_box _ _⟩
theorem mayBe_1 (sv g : Int) (se n : Nat) (t : ByteArray) (w : World) :
  Calls Tryz.prog 125 #[.agg #[.int .i64 1, .int .i64 sv, .int .i64 g, .int .u64 (se : Int), .int .u64 (n : Int), .string t]] w fun e w' =>
   e = .returned (.bool (Ent.may 1 sv g se n t)) ∧ Below w.heap.size w w' := by
 have h1 := fun w => isBelow_any sv 4 w
 have h2 := fun w => isAddressed_any 1 sv g se n t w
 have hm : Ent.may 1 sv g se n t = (decide (0 ≤ sv) && decide (sv < 4) && decide (t.size ≤ 16) && Ent.addr g se n) := rfl
 rw [hm]
 clear hm
 generalize (decide (0 ≤ sv) && decide (sv < 4)) = a at h1 ⊢
 generalize Ent.addr g se n = b at h2 ⊢
 cases a
 ·go_enter Tryz.func125, Tryz.ntmps125
  go_wp2_with fail
  refine (h1 _).mono ?_
  rintro e w1 ⟨rfl, rfl⟩
  go_wp2_with fail
  go_ret
  exact ⟨rfl, below_box _ _⟩
 ·by_cases ht : t.size ≤ 16
  ·rw [decide_eq_true ht]
   go_enter Tryz.func125, Tryz.ntmps125
   go_wp2_with fail
   refine (h1 _).mono ?_
   rintro e w1 ⟨rfl, rfl⟩
   go_wp2_with fail
   refine (h2 _).mono ?_
   rintro e w2 ⟨rfl, hb2⟩
   go_wp2_with fail
   go_ret
   exact ⟨rfl, (below_box _ _).trans (hb2.mono (below_box _ _).size)⟩
  ·rw [decide_eq_false ht]
   go_enter Tryz.func125, Tryz.ntmps125
   go_wp2_with fail
   refine (h1 _).mono ?_
   rintro e w1 ⟨rfl, rfl⟩
   go_wp2_with fail
   go_ret
   exact ⟨rfl, below_box _ _⟩
theorem mayBe_2 (sv g : Int) (se n : Nat) (t : ByteArray) (w : World) :
  Calls Tryz.prog 125 #[.agg #[.int .i64 2, .int .i64 sv, .int .i64 g, .int .u64 (se : Int), .int .u64 (n : Int), .string t]] w fun e w' =>
   e = .returned (.bool (Ent.may 2 sv g se n t)) ∧ Below w.heap.size w w' := by
 have h2 := fun w => isAddressed_any 2 sv g se n t w
 have hm : Ent.may 2 sv g se n t = (decide (sv = 2) && decide (t.size = 0) && Ent.addr g se n) := rfl
 rw [hm]
 clear hm
 generalize Ent.addr g se n = b at h2 ⊢
 by_cases hs : sv = 2
 ·subst hs
  by_cases ht : t = ⟨#[]⟩
  ·subst ht
   go_enter Tryz.func125, Tryz.ntmps125
   go_wp2_with fail
   refine (h2 _).mono ?_
   rintro e w2 ⟨rfl, hb2⟩
   go_wp2_with fail
   go_ret
   exact ⟨rfl, (below_box _ _).trans (hb2.mono (below_box _ _).size)⟩
  ·have ht' : ¬ t.size = 0 := fun e => ht (ByteArray.ext (Array.eq_empty_of_size_eq_zero e))
   rw [decide_eq_false ht']
   have hd : (t.toList == []) = false := no_bytes ht
   clear ht' ht
   go_enter Tryz.func125, Tryz.ntmps125
   go_wp2_with fail
   go_ret
   exact ⟨rfl, below_box _ _⟩
 ·rw [decide_eq_false hs]
  have hc : (sv == 2) = false := by rw [beq_eq_false_iff_ne]; exact hs
  clear hs
  go_enter Tryz.func125, Tryz.ntmps125
  go_wp2_with fail
  go_ret
  exact ⟨rfl, below_box _ _⟩
theorem mayBe_3 (sv g : Int) (se n : Nat) (t : ByteArray) (w : World) :
  Calls Tryz.prog 125 #[.agg #[.int .i64 3, .int .i64 sv, .int .i64 g, .int .u64 (se : Int), .int .u64 (n : Int), .string t]] w fun e w' =>
   e = .returned (.bool (Ent.may 3 sv g se n t)) ∧ Below w.heap.size w w' := by
 have h2 := fun w => isAddressed_any 3 sv g se n t w
 have hm : Ent.may 3 sv g se n t = (decide (sv = 2) && decide (t.size = 0) && Ent.addr g se n) := rfl
 rw [hm]
 clear hm
 generalize Ent.addr g se n = b at h2 ⊢
 by_cases hs : sv = 2
 ·subst hs
  by_cases ht : t = ⟨#[]⟩
  ·subst ht
   go_enter Tryz.func125, Tryz.ntmps125
   go_wp2_with fail
   refine (h2 _).mono ?_
   rintro e w2 ⟨rfl, hb2⟩
   go_wp2_with fail
   go_ret
   exact ⟨rfl, (below_box _ _).trans (hb2.mono (below_box _ _).size)⟩
  ·have ht' : ¬ t.size = 0 := fun e => ht (ByteArray.ext (Array.eq_empty_of_size_eq_zero e))
   rw [decide_eq_false ht']
   have hd : (t.toList == []) = false := no_bytes ht
   clear ht' ht
   go_enter Tryz.func125, Tryz.ntmps125
   go_wp2_with fail
   go_ret
   exact ⟨rfl, below_box _ _⟩
 ·rw [decide_eq_false hs]
  have hc : (sv == 2) = false := by rw [beq_eq_false_iff_ne]; exact hs
  clear hs
  go_enter Tryz.func125, Tryz.ntmps125
  go_wp2_with fail
  go_ret
  exact ⟨rfl, below_box _ _⟩
theorem mayBe_other (k sv g : Int) (se n : Nat) (t : ByteArray) (h0 : ¬ k = 0) (h1 : ¬ k = 1) (h2 : ¬ k = 2) (h3 : ¬ k = 3) (w : World) :
  Calls Tryz.prog 125 #[.agg #[.int .i64 k, .int .i64 sv, .int .i64 g, .int .u64 (se : Int), .int .u64 (n : Int), .string t]] w fun e w' =>
   e = .returned (.bool (Ent.may k sv g se n t)) ∧ Below w.heap.size w w' := by
 have hm : Ent.may k sv g se n t = false := by
  unfold Ent.may
  rw [if_neg h0, if_neg h1, if_neg (by omega)]
 rw [hm]
 have c0 : (k == 0) = false := by rw [beq_eq_false_iff_ne]; exact h0
 have c1 : (k == 1) = false := by rw [beq_eq_false_iff_ne]; exact h1
 have c2 : (k == 2) = false := by rw [beq_eq_false_iff_ne]; exact h2
 have c3 : (k == 3) = false := by rw [beq_eq_false_iff_ne]; exact h3
 clear hm h0 h1 h2 h3
 go_enter Tryz.func125, Tryz.ntmps125
 go_wp2_with fail
 go_ret
 exact ⟨rfl, below_box _ _⟩
theorem mayBe_any (k sv g : Int) (se n : Nat) (t : ByteArray) (w : World) :
  Calls Tryz.prog 125 #[.agg #[.int .i64 k, .int .i64 sv, .int .i64 g, .int .u64 (se : Int), .int .u64 (n : Int), .string t]] w fun e w' =>
   e = .returned (.bool (Ent.may k sv g se n t)) ∧ Below w.heap.size w w' := by
 by_cases h0 : k = 0
 ·subst h0; exact mayBe_0 sv g se n t w
 by_cases h1 : k = 1
 ·subst h1; exact mayBe_1 sv g se n t w
 by_cases h2 : k = 2
 ·subst h2; exact mayBe_2 sv g se n t w
 by_cases h3 : k = 3
 ·subst h3; exact mayBe_3 sv g se n t w
 exact mayBe_other k sv g se n t h0 h1 h2 h3 w
end Go.Proofs.YthgfpdidilolgaaGreat.Eld
namespace Go.Proofs.YthgfpdidilolgaaGreat.Eld
set_option maxRecDepth 10000
open Go.RowKit Go.Sort
theorem box_cell {w w1 : World} {vs : Array Value} {T : TypeId} (hb : Below (w.alloc (.cells vs T)).heap.size (w.alloc (.cells vs T)) w1) (i : Nat) (v : Value) (h : vs[i]? = some v) : w1.cell? ⟨w.heap.size, i, none⟩ = some v := by
 rw [hb.cell (p := ⟨w.heap.size, i, none⟩) (by simp)]
 unfold World.cell?
 simp only [heap_alloc_new]
 exact h
def EntAt (B : Nat) (k sv g se n : Int) (t : ByteArray) (w : World) : Prop :=
 w.cell? ⟨B, 0, none⟩ = some (.int .i64 k) ∧ w.cell? ⟨B, 1, none⟩ = some (.int .i64 sv) ∧ w.cell? ⟨B, 2, none⟩ = some (.int .i64 g) ∧
 w.cell? ⟨B, 3, none⟩ = some (.int .u64 se) ∧ w.cell? ⟨B, 4, none⟩ = some (.int .u64 n) ∧ w.cell? ⟨B, 5, none⟩ = some (.string t)
theorem EntAt.below {B : Nat} {k sv g se n : Int} {t : ByteArray} {w w' : World} (h : EntAt B k sv g se n t w) (hB : B < w.heap.size) (hb : Below w.heap.size w w') : EntAt B k sv g se n t w' := by
 obtain ⟨h0, h1, h2, h3, h4, h5⟩ := h
 refine ⟨?_, ?_, ?_, ?_, ?_, ?_⟩
 ·rw [hb.cell (p := ⟨B, 0, none⟩) hB]; exact h0
 ·rw [hb.cell (p := ⟨B, 1, none⟩) hB]; exact h1
 ·rw [hb.cell (p := ⟨B, 2, none⟩) hB]; exact h2
 ·rw [hb.cell (p := ⟨B, 3, none⟩) hB]; exact h3
 ·rw [hb.cell (p := ⟨B, 4, none⟩) hB]; exact h4
 ·rw [hb.cell (p := ⟨B, 5, none⟩) hB]; exact h5
theorem ent_box (w : World) (k sv g se n : Int) (t : ByteArray) (T : TypeId) : EntAt w.heap.size k sv g se n t (w.alloc (.cells #[.int .i64 k, .int .i64 sv, .int .i64 g, .int .u64 se, .int .u64 n, .string t] T)) := by
 refine ⟨?_, ?_, ?_, ?_, ?_, ?_⟩
 all_goals
  unfold World.cell?
  simp only [heap_alloc_new]
  rfl
theorem ent_kept {w w1 : World} {k sv g se n : Int} {t : ByteArray} {T : TypeId} (hb : Below (w.alloc (.cells #[.int .i64 k, .int .i64 sv, .int .i64 g, .int .u64 se, .int .u64 n, .string t] T)).heap.size (w.alloc (.cells #[.int .i64 k, .int .i64 sv, .int .i64 g, .int .u64 se, .int .u64 n, .string t] T)) w1) :
  EntAt w.heap.size k sv g se n t w1 := (ent_box w k sv g se n t T).below (by simp) hb
def EntFree (B : Nat) (w : World) : Prop :=
 w.frozen? ⟨B, 0, none⟩ = false ∧ w.frozen? ⟨B, 1, none⟩ = false ∧ w.frozen? ⟨B, 2, none⟩ = false ∧
 w.frozen? ⟨B, 3, none⟩ = false ∧ w.frozen? ⟨B, 4, none⟩ = false ∧ w.frozen? ⟨B, 5, none⟩ = false
theorem EntFree.below {B : Nat} {w w' : World} (h : EntFree B w) (hB : B < w.heap.size) (hb : Below w.heap.size w w') : EntFree B w' := by
 obtain ⟨h0, h1, h2, h3, h4, h5⟩ := h
 refine ⟨?_, ?_, ?_, ?_, ?_, ?_⟩
 ·rw [hb.frozen (p := ⟨B, 0, none⟩) hB]; exact h0
 ·rw [hb.frozen (p := ⟨B, 1, none⟩) hB]; exact h1
 ·rw [hb.frozen (p := ⟨B, 2, none⟩) hB]; exact h2
 ·rw [hb.frozen (p := ⟨B, 3, none⟩) hB]; exact h3
 ·rw [hb.frozen (p := ⟨B, 4, none⟩) hB]; exact h4
 ·rw [hb.frozen (p := ⟨B, 5, none⟩) hB]; exact h5
theorem ent_free (w : World) (vs : Array Value) (T : TypeId) : EntFree w.heap.size (w.alloc (.cells vs T)) := by
 refine ⟨?_, ?_, ?_, ?_, ?_, ?_⟩
 all_goals
  unfold World.frozen?
  simp only [heap_alloc_new]
  simp
def entSet (B : Nat) (k sv g se n : Int) (t : ByteArray) (w : World) : World :=
 (((((w.setCell ⟨B, 0, none⟩ (.int .i64 k)).setCell ⟨B, 1, none⟩ (.int .i64 sv)).setCell ⟨B, 2, none⟩ (.int .i64 g)).setCell ⟨B, 3, none⟩ (.int .u64 se)).setCell ⟨B, 4, none⟩ (.int .u64 n)).setCell ⟨B, 5, none⟩ (.string t)
theorem entSet_at {B : Nat} {k sv g se n : Int} {t : ByteArray} {k' sv' g' se' n' : Int} {t' : ByteArray} {w : World} (h : EntAt B k' sv' g' se' n' t' w) : EntAt B k sv g se n t (entSet B k sv g se n t w) := by
 obtain ⟨h0, h1, h2, h3, h4, h5⟩ := h
 unfold entSet
 refine ⟨?_, ?_, ?_, ?_, ?_, ?_⟩
 all_goals simp [World.cell?_setCell_same', World.cell?_setCell_other, h0, h1, h2, h3, h4, h5]
theorem entSet_below {A B : Nat} (hA : A ≤ B) {k sv g se n : Int} {t : ByteArray} {w0 w : World} (h : Below A w0 w) : Below A w0 (entSet B k sv g se n t w) :=
 (((((h.setCell hA _).setCell hA _).setCell hA _).setCell hA _).setCell hA _).setCell hA _
set_option maxHeartbeats 1000000 in
theorem lay_ok (k sv g se n : Nat) (t : ByteArray) (hk : k < 256) (hv : sv < 256) (hg : g < 256) (ht : t.size ≤ 16) (w : World) :
  Calls Tryz.prog 226 #[.agg #[.int .i64 (k : Int), .int .i64 (sv : Int), .int .i64 (g : Int), .int .u64 (se : Int), .int .u64 (n : Int), .string t]] w fun e w' =>
   e = .returned (.string (Ent.bytes k sv g se n t)) ∧ Below w.heap.size w w' := by
 have q1 : IntKind.u64.wrap (k : Int) = (k : Int) := by rw [IntKind.wrap_u64]; omega
 have q2 : IntKind.u64.wrap (sv : Int) = (sv : Int) := by rw [IntKind.wrap_u64]; omega
 have q3 : IntKind.u64.wrap (g : Int) = (g : Int) := by rw [IntKind.wrap_u64]; omega
 unfold Ent.bytes
 have P0 : ∀ w, Calls Tryz.prog 210 #[.int .u64 (k : Int), .int .i64 1] w fun e w' => e = .returned (.string (Pack.putB k 1)) ∧ Below w.heap.size w w' := fun w => put_ok k 1 (by decide) (by decide) w
 have z0 := Pack.putB_size k 1
 have P1 : ∀ w, Calls Tryz.prog 210 #[.int .u64 (sv : Int), .int .i64 1] w fun e w' => e = .returned (.string (Pack.putB sv 1)) ∧ Below w.heap.size w w' := fun w => put_ok sv 1 (by decide) (by decide) w
 have z1 := Pack.putB_size sv 1
 have P2 : ∀ w, Calls Tryz.prog 210 #[.int .u64 (g : Int), .int .i64 1] w fun e w' => e = .returned (.string (Pack.putB g 1)) ∧ Below w.heap.size w w' := fun w => put_ok g 1 (by decide) (by decide) w
 have z2 := Pack.putB_size g 1
 have P3 : ∀ w, Calls Tryz.prog 210 #[.int .u64 (se : Int), .int .i64 2] w fun e w' => e = .returned (.string (Pack.putB se 2)) ∧ Below w.heap.size w w' := fun w => put_ok se 2 (by decide) (by decide) w
 have z3 := Pack.putB_size se 2
 have P4 : ∀ w, Calls Tryz.prog 210 #[.int .u64 (n : Int), .int .i64 4] w fun e w' => e = .returned (.string (Pack.putB n 4)) ∧ Below w.heap.size w w' := fun w => put_ok n 4 (by decide) (by decide) w
 have z4 := Pack.putB_size n 4
 have T : ∀ w, Calls Tryz.prog 229 #[.string t, .int .i64 16] w fun e w' => e = .returned (.tuple #[.string (Pack.textB t 16), .bool true]) ∧ Below w.heap.size w w' := fun w => putText_ok t 16 (by decide) ht w
 have zt := Pack.textB_size t 16
 generalize Pack.putB k 1 = b0 at P0 z0 ⊢
 generalize Pack.putB sv 1 = b1 at P1 z1 ⊢
 generalize Pack.putB g 1 = b2 at P2 z2 ⊢
 generalize Pack.putB se 2 = b3 at P3 z3 ⊢
 generalize Pack.putB n 4 = b4 at P4 z4 ⊢
 generalize Pack.textB t 16 = bt at T zt ⊢
 go_enter Tryz.func226, Tryz.ntmps226
 go_wp2_with fail
 refine (T _).mono ?_
 rintro e w1 ⟨rfl, hb1⟩
 have c0 : ∀ d os, (grow (redrawn w1 d) os).cell? ⟨w.heap.size, 0, none⟩ = some (.int .i64 (k : Int)) := cell_regrown (box_cell hb1 0 _ rfl)
 have c1 : ∀ d os, (grow (redrawn w1 d) os).cell? ⟨w.heap.size, 1, none⟩ = some (.int .i64 (sv : Int)) := cell_regrown (box_cell hb1 1 _ rfl)
 have c2 : ∀ d os, (grow (redrawn w1 d) os).cell? ⟨w.heap.size, 2, none⟩ = some (.int .i64 (g : Int)) := cell_regrown (box_cell hb1 2 _ rfl)
 have c3 : ∀ d os, (grow (redrawn w1 d) os).cell? ⟨w.heap.size, 3, none⟩ = some (.int .u64 (se : Int)) := cell_regrown (box_cell hb1 3 _ rfl)
 have c4 : ∀ d os, (grow (redrawn w1 d) os).cell? ⟨w.heap.size, 4, none⟩ = some (.int .u64 (n : Int)) := cell_regrown (box_cell hb1 4 _ rfl)
 have p0 : ∀ d os, Calls Tryz.prog 210 #[.int .u64 (k : Int), .int .i64 1] (grow (redrawn w1 d) os) fun e w'' => e = .returned (.string b0) ∧ ∃ p : Regrown, w'' = grow (redrawn w1 p.d) p.os := fun d os => Calls.regrown_of (P0 _)
 have p1 : ∀ d os, Calls Tryz.prog 210 #[.int .u64 (sv : Int), .int .i64 1] (grow (redrawn w1 d) os) fun e w'' => e = .returned (.string b1) ∧ ∃ p : Regrown, w'' = grow (redrawn w1 p.d) p.os := fun d os => Calls.regrown_of (P1 _)
 have p2 : ∀ d os, Calls Tryz.prog 210 #[.int .u64 (g : Int), .int .i64 1] (grow (redrawn w1 d) os) fun e w'' => e = .returned (.string b2) ∧ ∃ p : Regrown, w'' = grow (redrawn w1 p.d) p.os := fun d os => Calls.regrown_of (P2 _)
 have p3 : ∀ d os, Calls Tryz.prog 210 #[.int .u64 (se : Int), .int .i64 2] (grow (redrawn w1 d) os) fun e w'' => e = .returned (.string b3) ∧ ∃ p : Regrown, w'' = grow (redrawn w1 p.d) p.os := fun d os => Calls.regrown_of (P3 _)
 have p4 : ∀ d os, Calls Tryz.prog 210 #[.int .u64 (n : Int), .int .i64 4] (grow (redrawn w1 d) os) fun e w'' => e = .returned (.string b4) ∧ ∃ p : Regrown, w'' = grow (redrawn w1 p.d) p.os := fun d os => Calls.regrown_of (P4 _)
 clear P0 P1 P2 P3 P4 T
 go_wp2_with fail
 refine wp_region_quiet_below (by kernel_rfl) (by kernel_rfl) ?_
 clear hk hv hg
 repeat (go_big_quiet_step (first | with_reducible exact p0 _ _ | with_reducible exact p1 _ _ | with_reducible exact p2 _ _ | with_reducible exact p3 _ _ | with_reducible exact p4 _ _))
 refine wpQuiet_nil ?_
 intro _ hw'
 obtain ⟨⟨dq, osq⟩, hw''⟩ := hw'
 subst hw''
 go_wp2_with fail
 go_ret
 have hb2 := below_regrown w1 dq osq
 have s0 := (below_box w (.cells #[.int .i64 (k : Int), .int .i64 (sv : Int), .int .i64 (g : Int), .int .u64 (se : Int), .int .u64 (n : Int), .string t] 40))
 exact ⟨rfl, s0.trans ((hb1.mono s0.size).trans (hb2.mono (Nat.le_trans s0.size hb1.size)))⟩
theorem check_any (k sv g : Int) (se n : Nat) (t : ByteArray) (w : World) :
  Calls Tryz.prog 98 #[.agg #[.int .i64 k, .int .i64 sv, .int .i64 g, .int .u64 (se : Int), .int .u64 (n : Int), .string t]] w fun e w' =>
   e = .returned (.int .i64 (if Ent.may k sv g se n t then 0 else 30)) ∧ Below w.heap.size w w' := by
 have h := fun w => mayBe_any k sv g se n t w
 generalize Ent.may k sv g se n t = b at h ⊢
 cases b
 all_goals
  go_enter Tryz.func98, Tryz.ntmps98
  go_wp2_with fail
  refine (h _).mono ?_
  rintro e w1 ⟨rfl, hb1⟩
  go_wp2_with fail
  go_ret
  exact ⟨rfl, (below_box _ _).trans (hb1.mono (below_box _ _).size)⟩
theorem encode_no (k sv g : Int) (se n : Nat) (t : ByteArray) (hm : Ent.may k sv g se n t = false) (w : World) :
  Calls Tryz.prog 222 #[.agg #[.int .i64 k, .int .i64 sv, .int .i64 g, .int .u64 (se : Int), .int .u64 (n : Int), .string t]] w fun e w' =>
   e = .returned (.tuple #[.string ⟨#[]⟩, .int .i64 30]) ∧ Below w.heap.size w w' := by
 have h := fun w => check_any k sv g se n t w
 rw [hm] at h
 clear hm
 go_enter Tryz.func222, Tryz.ntmps222
 go_wp2_with fail
 refine (h _).mono ?_
 rintro e w1 ⟨rfl, hb1⟩
 go_wp2_with fail
 go_ret2
 exact ⟨rfl, (below_box _ _).trans (hb1.mono (below_box _ _).size)⟩
theorem encode_ok (k sv g se n : Nat) (t : ByteArray) (hm : Ent.may k sv g se n t = true) (hk : k < 256) (hv : sv < 256) (hg : g < 256) (ht : t.size ≤ 16) (w : World) :
  Calls Tryz.prog 222 #[.agg #[.int .i64 (k : Int), .int .i64 (sv : Int), .int .i64 (g : Int), .int .u64 (se : Int), .int .u64 (n : Int), .string t]] w fun e w' =>
   e = .returned (.tuple #[.string (Ent.bytes k sv g se n t), .int .i64 0]) ∧ Below w.heap.size w w' := by
 have h := fun w => check_any k sv g se n t w
 rw [hm] at h
 have hl := fun w => lay_ok k sv g se n t hk hv hg ht w
 clear hm hk hv hg ht
 generalize Ent.bytes k sv g se n t = bs at hl ⊢
 go_enter Tryz.func222, Tryz.ntmps222
 go_wp2_with fail
 refine (h _).mono ?_
 rintro e w1 ⟨rfl, hb1⟩
 obtain ⟨c0, c1, c2, c3, c4, c5⟩ := ent_kept hb1
 go_wp2_with fail
 refine (hl _).mono ?_
 rintro e w2 ⟨rfl, hb2⟩
 go_wp2_with fail
 go_ret2
 have s0 := below_box w (.cells #[.int .i64 (k : Int), .int .i64 (sv : Int), .int .i64 (g : Int), .int .u64 (se : Int), .int .u64 (n : Int), .string t] 40)
 exact ⟨rfl, s0.trans ((hb1.mono s0.size).trans (hb2.mono (Nat.le_trans s0.size hb1.size)))⟩
end Go.Proofs.YthgfpdidilolgaaGreat.Eld
namespace Go.Proofs.YthgfpdidilolgaaGreat.Eld
set_option maxRecDepth 10000
open Go.RowKit Go.Sort
set_option maxHeartbeats 1000000 in
theorem read_ok (s0 s1 s2 s3 s4 s5 t : ByteArray) (k sv g se n : Nat) (h28 : ((s0.size : Int) == 28) = true)
  (q1 : IntKind.i64.wrap (k : Int) = k) (q2 : IntKind.i64.wrap (sv : Int) = sv) (q3 : IntKind.i64.wrap (g : Int) = g)
  (T0 : ∀ w, Calls Tryz.prog 212 #[.string s0, .int .i64 1] w fun e w' => e = .returned (.tuple #[.int .u64 (k : Int), .string s1, .bool true]) ∧ Below w.heap.size w w')
  (T1 : ∀ w, Calls Tryz.prog 212 #[.string s1, .int .i64 1] w fun e w' => e = .returned (.tuple #[.int .u64 (sv : Int), .string s2, .bool true]) ∧ Below w.heap.size w w')
  (T2 : ∀ w, Calls Tryz.prog 212 #[.string s2, .int .i64 1] w fun e w' => e = .returned (.tuple #[.int .u64 (g : Int), .string s3, .bool true]) ∧ Below w.heap.size w w')
  (T3 : ∀ w, Calls Tryz.prog 212 #[.string s3, .int .i64 2] w fun e w' => e = .returned (.tuple #[.int .u64 (se : Int), .string s4, .bool true]) ∧ Below w.heap.size w w')
  (T4 : ∀ w, Calls Tryz.prog 212 #[.string s4, .int .i64 4] w fun e w' => e = .returned (.tuple #[.int .u64 (n : Int), .string s5, .bool true]) ∧ Below w.heap.size w w')
  (T5 : ∀ w, Calls Tryz.prog 231 #[.string s5, .int .i64 16] w fun e w' => e = .returned (.tuple #[.string t, .string ⟨#[0, 0]⟩, .bool true]) ∧ Below w.heap.size w w') (w : World) :
  Calls Tryz.prog 228 #[.string s0] w fun e w' => e = .returned (.tuple #[.agg #[.int .i64 (k : Int), .int .i64 (sv : Int), .int .i64 (g : Int), .int .u64 (se : Int), .int .u64 (n : Int), .string t], .bool true]) ∧ Below w.heap.size w w' := by
 go_enter Tryz.func228, Tryz.ntmps228
 go_wp2_with fail
 refine (T0 _).mono ?_
 rintro e w1 ⟨rfl, hb1⟩
 go_wp2_with fail
 refine (T1 _).mono ?_
 rintro e w2 ⟨rfl, hb2⟩
 go_wp2_with fail
 refine (T2 _).mono ?_
 rintro e w3 ⟨rfl, hb3⟩
 go_wp2_with fail
 refine (T3 _).mono ?_
 rintro e w4 ⟨rfl, hb4⟩
 go_wp2_with fail
 refine (T4 _).mono ?_
 rintro e w5 ⟨rfl, hb5⟩
 go_wp2_with fail
 refine (T5 _).mono ?_
 rintro e w6 ⟨rfl, hb6⟩
 have hB0 : w.heap.size < (w.alloc (.cells #[.int .i64 0, .int .i64 0, .int .i64 0, .int .u64 0, .int .u64 0, .string ⟨#[]⟩] 40)).heap.size := by simp
 have hB6 := (hb1.trans ((hb2.mono hb1.size).trans ((hb3.mono (Nat.le_trans hb1.size hb2.size)).trans ((hb4.mono (Nat.le_trans (Nat.le_trans hb1.size hb2.size) hb3.size)).trans
  ((hb5.mono (Nat.le_trans (Nat.le_trans (Nat.le_trans hb1.size hb2.size) hb3.size) hb4.size)).trans (hb6.mono (Nat.le_trans (Nat.le_trans (Nat.le_trans (Nat.le_trans hb1.size hb2.size) hb3.size) hb4.size) hb5.size)))))))
 obtain ⟨c0, c1, c2, c3, c4, c5⟩ := (ent_box w 0 0 0 0 0 ⟨#[]⟩ 40).below hB0 hB6
 obtain ⟨f0, f1, f2, f3, f4, f5⟩ := (ent_free w #[.int .i64 0, .int .i64 0, .int .i64 0, .int .u64 0, .int .u64 0, .string ⟨#[]⟩] 40).below hB0 hB6
 go_wp2_with fail
 obtain ⟨d0, d1, d2, d3, d4, d5⟩ : EntAt w.heap.size k sv g se n t (entSet w.heap.size k sv g se n t w6) := entSet_at ⟨c0, c1, c2, c3, c4, c5⟩
 refine bodyPost_ret (w := entSet w.heap.size k sv g se n t w6) (v := .tuple #[.agg #[.int .i64 (k : Int), .int .i64 (sv : Int), .int .i64 (g : Int), .int .u64 (se : Int), .int .u64 (n : Int), .string t], .bool true]) (by simp [results, Tryz.results228, go_sem, d0, d1, d2, d3, d4, d5]) rfl ⟨rfl, ?_⟩
 exact entSet_below (Nat.le_refl _) ((below_box _ _).trans (hB6.mono (below_box _ _).size))
set_option maxHeartbeats 1000000 in
theorem decode_ok (s : ByteArray) (k sv g : Int) (se n : Nat) (t : ByteArray) (hm : Ent.may k sv g se n t = true)
  (R : ∀ w, Calls Tryz.prog 228 #[.string s] w fun e w' => e = .returned (.tuple #[.agg #[.int .i64 k, .int .i64 sv, .int .i64 g, .int .u64 (se : Int), .int .u64 (n : Int), .string t], .bool true]) ∧ Below w.heap.size w w') (w : World) :
  Calls Tryz.prog 224 #[.string s] w fun e w' => e = .returned (.tuple #[.agg #[.int .i64 k, .int .i64 sv, .int .i64 g, .int .u64 (se : Int), .int .u64 (n : Int), .string t], .int .i64 0]) ∧ Below w.heap.size w w' := by
 have h := fun w => mayBe_any k sv g se n t w
 rw [hm] at h
 clear hm
 go_enter Tryz.func224, Tryz.ntmps224
 go_wp2_with fail
 refine (R _).mono ?_
 rintro e w1 ⟨rfl, hb1⟩
 go_wp2_with fail
 refine (h _).mono ?_
 rintro e w2 ⟨rfl, hb2⟩
 have hB0 : w.heap.size < (w.alloc (.cells #[.int .i64 0, .int .i64 0, .int .i64 0, .int .u64 0, .int .u64 0, .string ⟨#[]⟩] 40)).heap.size := by simp
 have hB1 : w.heap.size < w1.heap.size := Nat.lt_of_lt_of_le hB0 hb1.size
 have a1 := below_box w1 (.cells #[.int .i64 k, .int .i64 sv, .int .i64 g, .int .u64 (se : Int), .int .u64 (n : Int), .string t] 40)
 have hB2 : w.heap.size < (w1.alloc (.cells #[.int .i64 k, .int .i64 sv, .int .i64 g, .int .u64 (se : Int), .int .u64 (n : Int), .string t] 40)).heap.size := Nat.lt_of_lt_of_le hB1 a1.size
 obtain ⟨c0, c1, c2, c3, c4, c5⟩ := (((ent_box w 0 0 0 0 0 ⟨#[]⟩ 40).below hB0 hb1).below hB1 a1).below hB2 hb2
 obtain ⟨f0, f1, f2, f3, f4, f5⟩ := (((ent_free w #[.int .i64 0, .int .i64 0, .int .i64 0, .int .u64 0, .int .u64 0, .string ⟨#[]⟩] 40).below hB0 hb1).below hB1 a1).below hB2 hb2
 have hw1 : Below w.heap.size w (w1.alloc (.cells #[.int .i64 k, .int .i64 sv, .int .i64 g, .int .u64 (se : Int), .int .u64 (n : Int), .string t] 40)) := (below_box _ _).trans ((hb1.mono (below_box _ _).size).trans (a1.mono (Nat.le_of_lt hB1)))
 have hw2 := hw1.trans (hb2.mono (Nat.le_of_lt hB2))
 obtain ⟨g0, g1, g2, g3, g4, g5⟩ := ent_kept hb2
 have hne : (w.heap.size == w1.heap.size) = false := by rw [beq_eq_false_iff_ne]; omega
 go_wp2_with fail
 obtain ⟨d0, d1, d2, d3, d4, d5⟩ : EntAt w.heap.size k sv g se n t (entSet w.heap.size k sv g se n t w2) := entSet_at ⟨c0, c1, c2, c3, c4, c5⟩
 refine bodyPost_ret (w := entSet w.heap.size k sv g se n t w2) (v := .tuple #[.agg #[.int .i64 k, .int .i64 sv, .int .i64 g, .int .u64 (se : Int), .int .u64 (n : Int), .string t], .int .i64 0]) (by simp [results, Tryz.results224, go_sem, d0, d1, d2, d3, d4, d5]) rfl ⟨rfl, ?_⟩
 exact entSet_below (Nat.le_refl _) hw2
end Go.Proofs.YthgfpdidilolgaaGreat.Eld
namespace Go.Proofs.YthgfpdidilolgaaGreat.Eld
set_option maxRecDepth 10000
open Go.RowKit Go.Sort
end Go.Proofs.YthgfpdidilolgaaGreat.Eld
namespace Go.Proofs.YthgfpdidilolgaaGreat.Eld
set_option maxRecDepth 10000
open Go.RowKit Go.Sort
end Go.Proofs.YthgfpdidilolgaaGreat.Eld
namespace Go.Proofs.YthgfpdidilolgaaGreat.Eld
set_option maxRecDepth 10000
namespace Pack
end Pack
namespace Ent
theorem bytes_chain (k sv g se n : Nat) (t : ByteArray) : bytes k sv g se n t =
  Pack.putB k 1 ++ (Pack.putB sv 1 ++ (Pack.putB g 1 ++ (Pack.putB se 2 ++ (Pack.putB n 4 ++ (Pack.textB t 16 ++ ⟨#[0, 0]⟩))))) := by
 unfold bytes
 simp only [ByteArray.append_assoc]
theorem part (s : ByteArray) (k m : Nat) (h : s.size = k + m) : ∃ (n : Nat) (r : ByteArray), n < 256 ^ k ∧ r.size = m ∧ s = Pack.putB n k ++ r :=
 ⟨Pack.val (s.data.toList.take k), s.extract k s.size, Pack.once_fits s k (by omega), by rw [ByteArray.size_extract]; omega, (Pack.once_put s k (by omega)).symm⟩
end Ent
end Go.Proofs.YthgfpdidilolgaaGreat.Eld
namespace Go.Proofs.YthgfpdidilolgaaGreat.Eld
set_option maxRecDepth 10000
open Go.RowKit Go.Sort
theorem take_at (n : Nat) (r : ByteArray) (hr : r.size ≤ 140737488351232) (k : Nat) (h1 : 1 ≤ k) (h8 : k ≤ 8) (hn : n < 256 ^ k) (w : World) :
  Calls Tryz.prog 212 #[.string (Pack.putB n k ++ r), .int .i64 (k : Int)] w fun e w' => e = .returned (.tuple #[.int .u64 (n : Int), .string r, .bool true]) ∧ Below w.heap.size w w' := by
 have h := num_back n r hr k h1 h8 w
 rw [Nat.mod_eq_of_lt hn] at h
 exact h
theorem decode_back (k sv g se n : Nat) (t : ByteArray) (hm : Ent.may k sv g se n t = true) (hk : k < 256) (hv : sv < 256) (hg : g < 256) (hs : se < 256 ^ 2) (hn : n < 256 ^ 4) (ht : t.size ≤ 16) (w : World) :
  Calls Tryz.prog 224 #[.string (Ent.bytes k sv g se n t)] w fun e w' => e = .returned (.tuple #[.agg #[.int .i64 (k : Int), .int .i64 (sv : Int), .int .i64 (g : Int), .int .u64 (se : Int), .int .u64 (n : Int), .string t], .int .i64 0]) ∧ Below w.heap.size w w' := by
 have c28 : (((Ent.bytes k sv g se n t).size : Int) == 28) = true := by rw [Ent.bytes_size]; rfl
 rw [Ent.bytes_chain] at c28 ⊢
 have z5 : (Pack.textB t 16 ++ ⟨#[0, 0]⟩ : ByteArray).size = 19 := by rw [ByteArray.size_append, Pack.textB_size]; rfl
 exact decode_ok _ k sv g se n t hm (fun w => read_ok _ _ _ _ _ _ t k sv g se n c28 (by rw [IntKind.wrap_i64]; omega) (by rw [IntKind.wrap_i64]; omega) (by rw [IntKind.wrap_i64]; omega) (fun w => take_at k _ (by simp only [ByteArray.size_append, Pack.putB_size, z5]; omega) 1 (by decide) (by decide) (by simpa using hk) w) (fun w => take_at sv _ (by simp only [ByteArray.size_append, Pack.putB_size, z5]; omega) 1 (by decide) (by decide) (by simpa using hv) w) (fun w => take_at g _ (by simp only [ByteArray.size_append, Pack.putB_size, z5]; omega) 1 (by decide) (by decide) (by simpa using hg) w) (fun w => take_at se _ (by simp only [ByteArray.size_append, Pack.putB_size, z5]; omega) 2 (by decide) (by decide) hs w) (fun w => take_at n _ (by rw [z5]; omega) 4 (by decide) (by decide) hn w) (fun w => text_back t ⟨#[0, 0]⟩ (by decide) 16 (by decide) ht w) w) w
end Go.Proofs.YthgfpdidilolgaaGreat.Eld
namespace Go.Proofs.YthgfpdidilolgaaGreat.Eld
set_option maxRecDepth 10000
open Go.RowKit Go.Sort
structure En where
 k : Int
 sv : Int
 g : Int
 se : Nat
 n : Nat
 t : ByteArray
def En.vals (e : En) : List Value := [.int .i64 e.k, .int .i64 e.sv, .int .i64 e.g, .int .u64 (e.se : Int), .int .u64 (e.n : Int), .string e.t]
def En.zero : En := ⟨0, 0, 0, 0, 0, ⟨#[]⟩⟩
def En.may (e : En) : Bool := Ent.may e.k e.sv e.g e.se e.n e.t
def En.bytes (e : En) : ByteArray := Ent.bytes e.k.toNat e.sv.toNat e.g.toNat e.se e.n e.t
def enCells (l : List En) : List Value := l.flatMap En.vals
def Fr.list (F : Nat → En) : List En := [F 0, F 1, F 2, F 3, F 4, F 5]
def frc (F : Nat → En) : Array Value := (enCells (Fr.list F)).toArray
def lnc (a b : En) : Array Value := (enCells [a, b]).toArray
def Fr.may (F : Nat → En) : Bool := (Fr.list F).all En.may
def Fr.upto (F : Nat → En) : Nat → List UInt8
 | 0 => []
 | m + 1 => Fr.upto F m ++ (F m).bytes.data.toList
def Fr.bytes (F : Nat → En) : ByteArray := ⟨(Fr.upto F 6).toArray⟩
theorem En.vals_length (e : En) : e.vals.length = 6 := rfl
theorem enCells_length (l : List En) : (enCells l).length = 6 * l.length := by
 induction l with
 | nil => rfl
 | cons e l ih =>
  show (e.vals ++ enCells l).length = _
  rw [List.length_append, ih, En.vals_length, List.length_cons]; omega
theorem frc_size (F : Nat → En) : (frc F).size = 36 := by
 show (enCells (Fr.list F)).toArray.size = 36
 rw [List.size_toArray, enCells_length]; rfl
theorem lnc_size (a b : En) : (lnc a b).size = 12 := by
 show (enCells [a, b]).toArray.size = 12
 rw [List.size_toArray, enCells_length]; rfl
theorem En.vals_one (e : En) : ∀ v ∈ e.vals, v.oneCell' = true := by
 intro v hv
 simp [En.vals] at hv
 rcases hv with rfl | rfl | rfl | rfl | rfl | rfl <;> rfl
theorem enCells_one (l : List En) : ∀ v ∈ enCells l, v.oneCell' = true := by
 intro v hv
 simp only [enCells, List.mem_flatMap] at hv
 obtain ⟨e, _, he⟩ := hv
 exact e.vals_one v he
theorem En.one (e : En) : e.vals.toArray.all (·.oneCell') = true := all_oneCell_toArray e.vals_one
theorem frc_one (F : Nat → En) : (frc F).all (·.oneCell') = true := all_oneCell_toArray (enCells_one _)
theorem lnc_one (a b : En) : (lnc a b).all (·.oneCell') = true := all_oneCell_toArray (enCells_one _)
theorem Fr.may_all (F : Nat → En) : Fr.may F = true ↔ ∀ m, m < 6 → (F m).may = true := by
 simp only [Fr.may, Fr.list, List.all_cons, List.all_nil, Bool.and_true, Bool.and_eq_true]
 constructor
 ·rintro ⟨h0, h1, h2, h3, h4, h5⟩ m hm
  match m, hm with
  | 0, _ => exact h0
  | 1, _ => exact h1
  | 2, _ => exact h2
  | 3, _ => exact h3
  | 4, _ => exact h4
  | 5, _ => exact h5
 ·intro h
  exact ⟨h 0 (by omega), h 1 (by omega), h 2 (by omega), h 3 (by omega), h 4 (by omega), h 5 (by omega)⟩
theorem frc_part (F : Nat → En) (x o : Nat) (hx : x < 6) (ho : o = 6 * x) : ((frc F).extract o (o + (F x).vals.length)).toList = (F x).vals := by
 subst ho
 match x, hx with
 | 0, _ => rfl
 | 1, _ => rfl
 | 2, _ => rfl
 | 3, _ => rfl
 | 4, _ => rfl
 | 5, _ => rfl
theorem size27 : (Tryz.prog.info? 43).map (·.size) = some 36 := by kernel_rfl
theorem size25 : (Tryz.prog.info? 41).map (·.size) = some 12 := by kernel_rfl
theorem size24 : (Tryz.prog.info? 40).map (·.size) = some 6 := by kernel_rfl
theorem ix27 (F : Nat → En) (i : Nat) (hi : i < 3) (w : World) :
  (Instr.index 43 (.agg (frc F)) (.int .i64 (i : Int))).run Tryz.prog w = .ok (.agg (lnc (F (2 * i)) (F (2 * i + 1)))) w := by
 obtain rfl | rfl | rfl : i = 0 ∨ i = 1 ∨ i = 2 := by omega
 all_goals kernel_rfl
theorem ix25 (F : Nat → En) (i j : Nat) (hj : j < 2) (w : World) :
  (Instr.index 41 (.agg (lnc (F (2 * i)) (F (2 * i + 1)))) (.int .i64 (j : Int))).run Tryz.prog w = .ok (.agg (F (2 * i + j)).vals.toArray) w := by
 obtain rfl | rfl : j = 0 ∨ j = 1 := by omega
 all_goals kernel_rfl
end Go.Proofs.YthgfpdidilolgaaGreat.Eld
