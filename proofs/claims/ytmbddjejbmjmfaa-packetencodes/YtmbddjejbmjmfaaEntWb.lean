/-
  An entry's bytes: what lay, Check, Encode and Empty return. Of the memory that was there nothing turns.
  Condition: lay is asked for entries whose fields fit.
-/
import Derived.Test.YtmbddjejbmjmfaaEntWa
import Derived.Lib.QuietBelow
namespace Go.Proofs.Ytmbddjejbmjmfaa
set_option maxRecDepth 10000
open Go.RowKit Go.Sort

theorem box_cell {w w1 : World} {vs : Array Value} {T : TypeId} (hb : Below (w.alloc (.cells vs T)).heap.size (w.alloc (.cells vs T)) w1) (i : Nat) (v : Value) (h : vs[i]? = some v) : w1.cell? ⟨w.heap.size, i, none⟩ = some v := by
  rw [hb.cell (p := ⟨w.heap.size, i, none⟩) (by simp)]
  unfold World.cell?
  simp only [heap_alloc_new]
  exact h

def EntAt (B : Nat) (k sv g se n : Int) (t : ByteArray) (w : World) : Prop :=
  w.cell? ⟨B, 0, none⟩ = some (.int .i64 k) ∧ w.cell? ⟨B, 1, none⟩ = some (.int .i64 sv) ∧ w.cell? ⟨B, 2, none⟩ = some (.int .i64 g) ∧
  w.cell? ⟨B, 3, none⟩ = some (.int .u64 se) ∧ w.cell? ⟨B, 4, none⟩ = some (.int .u64 n) ∧ w.cell? ⟨B, 5, none⟩ = some (.string t)

theorem EntAt.below {B : Nat} {k sv g se n : Int} {t : ByteArray} {w w' : World} (h : EntAt B k sv g se n t w) (hB : B < w.heap.size) (hb : Below w.heap.size w w') : EntAt B k sv g se n t w' := by
  obtain ⟨h0, h1, h2, h3, h4, h5⟩ := h
  refine ⟨?_, ?_, ?_, ?_, ?_, ?_⟩
  · rw [hb.cell (p := ⟨B, 0, none⟩) hB]; exact h0
  · rw [hb.cell (p := ⟨B, 1, none⟩) hB]; exact h1
  · rw [hb.cell (p := ⟨B, 2, none⟩) hB]; exact h2
  · rw [hb.cell (p := ⟨B, 3, none⟩) hB]; exact h3
  · rw [hb.cell (p := ⟨B, 4, none⟩) hB]; exact h4
  · rw [hb.cell (p := ⟨B, 5, none⟩) hB]; exact h5

theorem ent_box (w : World) (k sv g se n : Int) (t : ByteArray) (T : TypeId) : EntAt w.heap.size k sv g se n t (w.alloc (.cells #[.int .i64 k, .int .i64 sv, .int .i64 g, .int .u64 se, .int .u64 n, .string t] T)) := by
  refine ⟨?_, ?_, ?_, ?_, ?_, ?_⟩
  all_goals
    unfold World.cell?
    simp only [heap_alloc_new]
    rfl

theorem ent_kept {w w1 : World} {k sv g se n : Int} {t : ByteArray} {T : TypeId} (hb : Below (w.alloc (.cells #[.int .i64 k, .int .i64 sv, .int .i64 g, .int .u64 se, .int .u64 n, .string t] T)).heap.size (w.alloc (.cells #[.int .i64 k, .int .i64 sv, .int .i64 g, .int .u64 se, .int .u64 n, .string t] T)) w1) :
    EntAt w.heap.size k sv g se n t w1 := (ent_box w k sv g se n t T).below (by simp) hb

def EntFree (B : Nat) (w : World) : Prop :=
  w.frozen? ⟨B, 0, none⟩ = false ∧ w.frozen? ⟨B, 1, none⟩ = false ∧ w.frozen? ⟨B, 2, none⟩ = false ∧
  w.frozen? ⟨B, 3, none⟩ = false ∧ w.frozen? ⟨B, 4, none⟩ = false ∧ w.frozen? ⟨B, 5, none⟩ = false

theorem EntFree.below {B : Nat} {w w' : World} (h : EntFree B w) (hB : B < w.heap.size) (hb : Below w.heap.size w w') : EntFree B w' := by
  obtain ⟨h0, h1, h2, h3, h4, h5⟩ := h
  refine ⟨?_, ?_, ?_, ?_, ?_, ?_⟩
  · rw [hb.frozen (p := ⟨B, 0, none⟩) hB]; exact h0
  · rw [hb.frozen (p := ⟨B, 1, none⟩) hB]; exact h1
  · rw [hb.frozen (p := ⟨B, 2, none⟩) hB]; exact h2
  · rw [hb.frozen (p := ⟨B, 3, none⟩) hB]; exact h3
  · rw [hb.frozen (p := ⟨B, 4, none⟩) hB]; exact h4
  · rw [hb.frozen (p := ⟨B, 5, none⟩) hB]; exact h5

theorem ent_free (w : World) (vs : Array Value) (T : TypeId) : EntFree w.heap.size (w.alloc (.cells vs T)) := by
  refine ⟨?_, ?_, ?_, ?_, ?_, ?_⟩
  all_goals
    unfold World.frozen?
    simp only [heap_alloc_new]
    simp

def entSet (B : Nat) (k sv g se n : Int) (t : ByteArray) (w : World) : World :=
  (((((w.setCell ⟨B, 0, none⟩ (.int .i64 k)).setCell ⟨B, 1, none⟩ (.int .i64 sv)).setCell ⟨B, 2, none⟩ (.int .i64 g)).setCell ⟨B, 3, none⟩ (.int .u64 se)).setCell ⟨B, 4, none⟩ (.int .u64 n)).setCell ⟨B, 5, none⟩ (.string t)

theorem entSet_at {B : Nat} {k sv g se n : Int} {t : ByteArray} {k' sv' g' se' n' : Int} {t' : ByteArray} {w : World} (h : EntAt B k' sv' g' se' n' t' w) : EntAt B k sv g se n t (entSet B k sv g se n t w) := by
  obtain ⟨h0, h1, h2, h3, h4, h5⟩ := h
  unfold entSet
  refine ⟨?_, ?_, ?_, ?_, ?_, ?_⟩
  all_goals simp [World.cell?_setCell_same', World.cell?_setCell_other, h0, h1, h2, h3, h4, h5]

theorem entSet_below {A B : Nat} (hA : A ≤ B) {k sv g se n : Int} {t : ByteArray} {w0 w : World} (h : Below A w0 w) : Below A w0 (entSet B k sv g se n t w) :=
  (((((h.setCell hA _).setCell hA _).setCell hA _).setCell hA _).setCell hA _).setCell hA _

set_option maxHeartbeats 1000000 in
theorem lay_ok (k sv g se n : Nat) (t : ByteArray) (hk : k < 256) (hv : sv < 256) (hg : g < 256) (ht : t.size ≤ 16) (w : World) :
    Calls Try.prog 76 #[.agg #[.int .i64 (k : Int), .int .i64 (sv : Int), .int .i64 (g : Int), .int .u64 (se : Int), .int .u64 (n : Int), .string t]] w fun e w' =>
      e = .returned (.string (Ent.bytes k sv g se n t)) ∧ Below w.heap.size w w' := by
  have q1 : IntKind.u64.wrap (k : Int) = (k : Int) := by rw [IntKind.wrap_u64]; omega
  have q2 : IntKind.u64.wrap (sv : Int) = (sv : Int) := by rw [IntKind.wrap_u64]; omega
  have q3 : IntKind.u64.wrap (g : Int) = (g : Int) := by rw [IntKind.wrap_u64]; omega
  unfold Ent.bytes
  have P0 : ∀ w, Calls Try.prog 59 #[.int .u64 (k : Int), .int .i64 1] w fun e w' => e = .returned (.string (Pack.putB k 1)) ∧ Below w.heap.size w w' := fun w => put_ok k 1 (by decide) (by decide) w
  have z0 := Pack.putB_size k 1
  have P1 : ∀ w, Calls Try.prog 59 #[.int .u64 (sv : Int), .int .i64 1] w fun e w' => e = .returned (.string (Pack.putB sv 1)) ∧ Below w.heap.size w w' := fun w => put_ok sv 1 (by decide) (by decide) w
  have z1 := Pack.putB_size sv 1
  have P2 : ∀ w, Calls Try.prog 59 #[.int .u64 (g : Int), .int .i64 1] w fun e w' => e = .returned (.string (Pack.putB g 1)) ∧ Below w.heap.size w w' := fun w => put_ok g 1 (by decide) (by decide) w
  have z2 := Pack.putB_size g 1
  have P3 : ∀ w, Calls Try.prog 59 #[.int .u64 (se : Int), .int .i64 2] w fun e w' => e = .returned (.string (Pack.putB se 2)) ∧ Below w.heap.size w w' := fun w => put_ok se 2 (by decide) (by decide) w
  have z3 := Pack.putB_size se 2
  have P4 : ∀ w, Calls Try.prog 59 #[.int .u64 (n : Int), .int .i64 4] w fun e w' => e = .returned (.string (Pack.putB n 4)) ∧ Below w.heap.size w w' := fun w => put_ok n 4 (by decide) (by decide) w
  have z4 := Pack.putB_size n 4
  have T : ∀ w, Calls Try.prog 80 #[.string t, .int .i64 16] w fun e w' => e = .returned (.tuple #[.string (Pack.textB t 16), .bool true]) ∧ Below w.heap.size w w' := fun w => putText_ok t 16 (by decide) ht w
  have zt := Pack.textB_size t 16
  generalize Pack.putB k 1 = b0 at P0 z0 ⊢
  generalize Pack.putB sv 1 = b1 at P1 z1 ⊢
  generalize Pack.putB g 1 = b2 at P2 z2 ⊢
  generalize Pack.putB se 2 = b3 at P3 z3 ⊢
  generalize Pack.putB n 4 = b4 at P4 z4 ⊢
  generalize Pack.textB t 16 = bt at T zt ⊢
  go_enter Try.func76, Try.ntmps76
  go_wp2_with fail
  refine (T _).mono ?_
  rintro e w1 ⟨rfl, hb1⟩
  have c0 : ∀ d os, (grow (redrawn w1 d) os).cell? ⟨w.heap.size, 0, none⟩ = some (.int .i64 (k : Int)) := cell_regrown (box_cell hb1 0 _ rfl)
  have c1 : ∀ d os, (grow (redrawn w1 d) os).cell? ⟨w.heap.size, 1, none⟩ = some (.int .i64 (sv : Int)) := cell_regrown (box_cell hb1 1 _ rfl)
  have c2 : ∀ d os, (grow (redrawn w1 d) os).cell? ⟨w.heap.size, 2, none⟩ = some (.int .i64 (g : Int)) := cell_regrown (box_cell hb1 2 _ rfl)
  have c3 : ∀ d os, (grow (redrawn w1 d) os).cell? ⟨w.heap.size, 3, none⟩ = some (.int .u64 (se : Int)) := cell_regrown (box_cell hb1 3 _ rfl)
  have c4 : ∀ d os, (grow (redrawn w1 d) os).cell? ⟨w.heap.size, 4, none⟩ = some (.int .u64 (n : Int)) := cell_regrown (box_cell hb1 4 _ rfl)
  have p0 : ∀ d os, Calls Try.prog 59 #[.int .u64 (k : Int), .int .i64 1] (grow (redrawn w1 d) os) fun e w'' => e = .returned (.string b0) ∧ ∃ p : Regrown, w'' = grow (redrawn w1 p.d) p.os := fun d os => Calls.regrown_of (P0 _)
  have p1 : ∀ d os, Calls Try.prog 59 #[.int .u64 (sv : Int), .int .i64 1] (grow (redrawn w1 d) os) fun e w'' => e = .returned (.string b1) ∧ ∃ p : Regrown, w'' = grow (redrawn w1 p.d) p.os := fun d os => Calls.regrown_of (P1 _)
  have p2 : ∀ d os, Calls Try.prog 59 #[.int .u64 (g : Int), .int .i64 1] (grow (redrawn w1 d) os) fun e w'' => e = .returned (.string b2) ∧ ∃ p : Regrown, w'' = grow (redrawn w1 p.d) p.os := fun d os => Calls.regrown_of (P2 _)
  have p3 : ∀ d os, Calls Try.prog 59 #[.int .u64 (se : Int), .int .i64 2] (grow (redrawn w1 d) os) fun e w'' => e = .returned (.string b3) ∧ ∃ p : Regrown, w'' = grow (redrawn w1 p.d) p.os := fun d os => Calls.regrown_of (P3 _)
  have p4 : ∀ d os, Calls Try.prog 59 #[.int .u64 (n : Int), .int .i64 4] (grow (redrawn w1 d) os) fun e w'' => e = .returned (.string b4) ∧ ∃ p : Regrown, w'' = grow (redrawn w1 p.d) p.os := fun d os => Calls.regrown_of (P4 _)
  clear P0 P1 P2 P3 P4 T
  go_wp2_with fail
  refine wp_region_quiet_below (by kernel_rfl) (by kernel_rfl) ?_
  clear hk hv hg
  repeat (go_big_quiet_step (first | with_reducible exact p0 _ _ | with_reducible exact p1 _ _ | with_reducible exact p2 _ _ | with_reducible exact p3 _ _ | with_reducible exact p4 _ _))
  refine wpQuiet_nil ?_
  intro _ hw'
  obtain ⟨⟨dq, osq⟩, hw''⟩ := hw'
  subst hw''
  go_wp2_with fail
  go_ret
  have hb2 := below_regrown w1 dq osq
  have s0 := (below_box w (.cells #[.int .i64 (k : Int), .int .i64 (sv : Int), .int .i64 (g : Int), .int .u64 (se : Int), .int .u64 (n : Int), .string t] 30))
  exact ⟨rfl, s0.trans ((hb1.mono s0.size).trans (hb2.mono (Nat.le_trans s0.size hb1.size)))⟩

theorem check_any (k sv g : Int) (se n : Nat) (t : ByteArray) (w : World) :
    Calls Try.prog 72 #[.agg #[.int .i64 k, .int .i64 sv, .int .i64 g, .int .u64 (se : Int), .int .u64 (n : Int), .string t]] w fun e w' =>
      e = .returned (.int .i64 (if Ent.may k sv g se n t then 0 else 30)) ∧ Below w.heap.size w w' := by
  have h := fun w => mayBe_any k sv g se n t w
  generalize Ent.may k sv g se n t = b at h ⊢
  cases b
  all_goals
    go_enter Try.func72, Try.ntmps72
    go_wp2_with fail
    refine (h _).mono ?_
    rintro e w1 ⟨rfl, hb1⟩
    go_wp2_with fail
    go_ret
    exact ⟨rfl, (below_box _ _).trans (hb1.mono (below_box _ _).size)⟩

theorem encode_no (k sv g : Int) (se n : Nat) (t : ByteArray) (hm : Ent.may k sv g se n t = false) (w : World) :
    Calls Try.prog 70 #[.agg #[.int .i64 k, .int .i64 sv, .int .i64 g, .int .u64 (se : Int), .int .u64 (n : Int), .string t]] w fun e w' =>
      e = .returned (.tuple #[.string ⟨#[]⟩, .int .i64 30]) ∧ Below w.heap.size w w' := by
  have h := fun w => check_any k sv g se n t w
  rw [hm] at h
  clear hm
  go_enter Try.func70, Try.ntmps70
  go_wp2_with fail
  refine (h _).mono ?_
  rintro e w1 ⟨rfl, hb1⟩
  go_wp2_with fail
  go_ret2
  exact ⟨rfl, (below_box _ _).trans (hb1.mono (below_box _ _).size)⟩

theorem encode_ok (k sv g se n : Nat) (t : ByteArray) (hm : Ent.may k sv g se n t = true) (hk : k < 256) (hv : sv < 256) (hg : g < 256) (ht : t.size ≤ 16) (w : World) :
    Calls Try.prog 70 #[.agg #[.int .i64 (k : Int), .int .i64 (sv : Int), .int .i64 (g : Int), .int .u64 (se : Int), .int .u64 (n : Int), .string t]] w fun e w' =>
      e = .returned (.tuple #[.string (Ent.bytes k sv g se n t), .int .i64 0]) ∧ Below w.heap.size w w' := by
  have h := fun w => check_any k sv g se n t w
  rw [hm] at h
  have hl := fun w => lay_ok k sv g se n t hk hv hg ht w
  clear hm hk hv hg ht
  generalize Ent.bytes k sv g se n t = bs at hl ⊢
  go_enter Try.func70, Try.ntmps70
  go_wp2_with fail
  refine (h _).mono ?_
  rintro e w1 ⟨rfl, hb1⟩
  obtain ⟨c0, c1, c2, c3, c4, c5⟩ := ent_kept hb1
  go_wp2_with fail
  refine (hl _).mono ?_
  rintro e w2 ⟨rfl, hb2⟩
  go_wp2_with fail
  go_ret2
  have s0 := below_box w (.cells #[.int .i64 (k : Int), .int .i64 (sv : Int), .int .i64 (g : Int), .int .u64 (se : Int), .int .u64 (n : Int), .string t] 30)
  exact ⟨rfl, s0.trans ((hb1.mono s0.size).trans (hb2.mono (Nat.le_trans s0.size hb1.size)))⟩

end Go.Proofs.Ytmbddjejbmjmfaa
