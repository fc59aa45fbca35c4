/-
  The entry that some bytes are, by the document's Decode: the same as the code's. Of the memory that was there nothing turns.
  Condition: a text has at most 2^47 bytes.
-/
import Derived.Test.YtmbddjejbmjmfaaEntWc
import Derived.Test.YtmbddjejbmjmfaaEntRa
namespace Go.Proofs.Ytmbddjejbmjmfaa
set_option maxRecDepth 10000
open Go.RowKit Go.Sort

theorem rdecode_size (s : ByteArray) (h : ((s.size : Int) == 28) = false) (w : World) :
    Calls Try.prog 55 #[.string s] w fun e w' => e = .returned (.tuple #[.agg #[.int .i64 0, .int .i64 0, .int .i64 0, .int .u64 0, .int .u64 0, .string ⟨#[]⟩], .int .i64 30]) ∧ Below w.heap.size w w' := by
  go_enter Try.func55, Try.ntmps55
  go_wp2_with fail
  refine bodyPost_ret (v := .tuple #[.agg #[.int .i64 0, .int .i64 0, .int .i64 0, .int .u64 0, .int .u64 0, .string ⟨#[]⟩], .int .i64 30]) (by simp [results, Try.results55, go_sem]) rfl ⟨rfl, ?_⟩
  exact below_box _ _

set_option maxHeartbeats 1000000 in
theorem rdecode_no (s0 s1 s2 s3 s4 s5 t x : ByteArray) (k sv g se n : Nat) (h28 : ((s0.size : Int) == 28) = true)
    (q1 : IntKind.i64.wrap (k : Int) = k) (q2 : IntKind.i64.wrap (sv : Int) = sv) (q3 : IntKind.i64.wrap (g : Int) = g)
    (T0 : ∀ w, Calls Try.prog 54 #[.string s0, .int .i64 1] w fun e w' => e = .returned (.tuple #[.int .u64 (k : Int), .string s1, .bool true]) ∧ Below w.heap.size w w')
    (T1 : ∀ w, Calls Try.prog 54 #[.string s1, .int .i64 1] w fun e w' => e = .returned (.tuple #[.int .u64 (sv : Int), .string s2, .bool true]) ∧ Below w.heap.size w w')
    (T2 : ∀ w, Calls Try.prog 54 #[.string s2, .int .i64 1] w fun e w' => e = .returned (.tuple #[.int .u64 (g : Int), .string s3, .bool true]) ∧ Below w.heap.size w w')
    (T3 : ∀ w, Calls Try.prog 54 #[.string s3, .int .i64 2] w fun e w' => e = .returned (.tuple #[.int .u64 (se : Int), .string s4, .bool true]) ∧ Below w.heap.size w w')
    (T4 : ∀ w, Calls Try.prog 54 #[.string s4, .int .i64 4] w fun e w' => e = .returned (.tuple #[.int .u64 (n : Int), .string s5, .bool true]) ∧ Below w.heap.size w w')
    (T5 : ∀ w, Calls Try.prog 66 #[.string s5, .int .i64 16] w fun e w' => e = .returned (.tuple #[.string t, .string x, .bool false]) ∧ Below w.heap.size w w') (w : World) :
    Calls Try.prog 55 #[.string s0] w fun e w' => e = .returned (.tuple #[.agg #[.int .i64 0, .int .i64 0, .int .i64 0, .int .u64 0, .int .u64 0, .string ⟨#[]⟩], .int .i64 30]) ∧ Below w.heap.size w w' := by
  go_enter Try.func55, Try.ntmps55
  go_wp2_with fail
  refine (T0 _).mono ?_
  rintro e w1 ⟨rfl, hb1⟩
  go_wp2_with fail
  refine (T1 _).mono ?_
  rintro e w2 ⟨rfl, hb2⟩
  go_wp2_with fail
  refine (T2 _).mono ?_
  rintro e w3 ⟨rfl, hb3⟩
  go_wp2_with fail
  refine (T3 _).mono ?_
  rintro e w4 ⟨rfl, hb4⟩
  go_wp2_with fail
  refine (T4 _).mono ?_
  rintro e w5 ⟨rfl, hb5⟩
  go_wp2_with fail
  refine (T5 _).mono ?_
  rintro e w6 ⟨rfl, hb6⟩
  have hB0 : w.heap.size < (w.alloc (.cells #[.int .i64 0, .int .i64 0, .int .i64 0, .int .u64 0, .int .u64 0, .string ⟨#[]⟩] 30)).heap.size := by simp
  have hB6 := (hb1.trans ((hb2.mono hb1.size).trans ((hb3.mono (Nat.le_trans hb1.size hb2.size)).trans ((hb4.mono (Nat.le_trans (Nat.le_trans hb1.size hb2.size) hb3.size)).trans
    ((hb5.mono (Nat.le_trans (Nat.le_trans (Nat.le_trans hb1.size hb2.size) hb3.size) hb4.size)).trans (hb6.mono (Nat.le_trans (Nat.le_trans (Nat.le_trans (Nat.le_trans hb1.size hb2.size) hb3.size) hb4.size) hb5.size)))))))
  have hL : w.heap.size < w6.heap.size := Nat.lt_of_lt_of_le hB0 hB6.size
  have hw6 : Below w.heap.size w w6 := (below_box _ _).trans (hB6.mono (below_box _ _).size)
  have e6 := (ent_box w 0 0 0 0 0 ⟨#[]⟩ 30).below hB0 hB6
  have g6 := (ent_free w #[.int .i64 0, .int .i64 0, .int .i64 0, .int .u64 0, .int .u64 0, .string ⟨#[]⟩] 30).below hB0 hB6
  clear hB6 hb1 hb2 hb3 hb4 hb5 hb6 hB0
  obtain ⟨c0, c1, c2, c3, c4, c5⟩ := e6
  obtain ⟨f0, f1, f2, f3, f4, f5⟩ := g6
  go_wp2_with fail
  have hs : (entSet w.heap.size 0 0 0 0 0 ⟨#[]⟩ w6).heap.size = w6.heap.size := by simp [entSet]
  have a1 := below_box (entSet w.heap.size 0 0 0 0 0 ⟨#[]⟩ w6) (.cells #[.int .i64 (k : Int), .int .i64 (sv : Int), .int .i64 (g : Int), .int .u64 (se : Int), .int .u64 (n : Int), .string t] 30)
  obtain ⟨d0, d1, d2, d3, d4, d5⟩ : EntAt w.heap.size 0 0 0 0 0 ⟨#[]⟩ ((entSet w.heap.size 0 0 0 0 0 ⟨#[]⟩ w6).alloc (.cells #[.int .i64 (k : Int), .int .i64 (sv : Int), .int .i64 (g : Int), .int .u64 (se : Int), .int .u64 (n : Int), .string t] 30)) := (entSet_at ⟨c0, c1, c2, c3, c4, c5⟩).below (by rw [hs]; exact hL) a1
  refine bodyPost_ret (w := (entSet w.heap.size 0 0 0 0 0 ⟨#[]⟩ w6).alloc (.cells #[.int .i64 (k : Int), .int .i64 (sv : Int), .int .i64 (g : Int), .int .u64 (se : Int), .int .u64 (n : Int), .string t] 30)) (v := .tuple #[.agg #[.int .i64 0, .int .i64 0, .int .i64 0, .int .u64 0, .int .u64 0, .string ⟨#[]⟩], .int .i64 30]) (by simp [results, Try.results55, go_sem, d0, d1, d2, d3, d4, d5]) rfl ⟨rfl, ?_⟩
  exact (entSet_below (Nat.le_refl _) hw6).trans (a1.mono (by rw [hs]; exact Nat.le_of_lt hL))

set_option maxHeartbeats 1000000 in
theorem rdecode_tail (s0 s1 s2 s3 s4 s5 t x : ByteArray) (k sv g se n : Nat) (hx : (x.toList == [0, 0]) = false) (h28 : ((s0.size : Int) == 28) = true)
    (q1 : IntKind.i64.wrap (k : Int) = k) (q2 : IntKind.i64.wrap (sv : Int) = sv) (q3 : IntKind.i64.wrap (g : Int) = g)
    (T0 : ∀ w, Calls Try.prog 54 #[.string s0, .int .i64 1] w fun e w' => e = .returned (.tuple #[.int .u64 (k : Int), .string s1, .bool true]) ∧ Below w.heap.size w w')
    (T1 : ∀ w, Calls Try.prog 54 #[.string s1, .int .i64 1] w fun e w' => e = .returned (.tuple #[.int .u64 (sv : Int), .string s2, .bool true]) ∧ Below w.heap.size w w')
    (T2 : ∀ w, Calls Try.prog 54 #[.string s2, .int .i64 1] w fun e w' => e = .returned (.tuple #[.int .u64 (g : Int), .string s3, .bool true]) ∧ Below w.heap.size w w')
    (T3 : ∀ w, Calls Try.prog 54 #[.string s3, .int .i64 2] w fun e w' => e = .returned (.tuple #[.int .u64 (se : Int), .string s4, .bool true]) ∧ Below w.heap.size w w')
    (T4 : ∀ w, Calls Try.prog 54 #[.string s4, .int .i64 4] w fun e w' => e = .returned (.tuple #[.int .u64 (n : Int), .string s5, .bool true]) ∧ Below w.heap.size w w')
    (T5 : ∀ w, Calls Try.prog 66 #[.string s5, .int .i64 16] w fun e w' => e = .returned (.tuple #[.string t, .string x, .bool true]) ∧ Below w.heap.size w w') (w : World) :
    Calls Try.prog 55 #[.string s0] w fun e w' => e = .returned (.tuple #[.agg #[.int .i64 0, .int .i64 0, .int .i64 0, .int .u64 0, .int .u64 0, .string ⟨#[]⟩], .int .i64 30]) ∧ Below w.heap.size w w' := by
  go_enter Try.func55, Try.ntmps55
  go_wp2_with fail
  refine (T0 _).mono ?_
  rintro e w1 ⟨rfl, hb1⟩
  go_wp2_with fail
  refine (T1 _).mono ?_
  rintro e w2 ⟨rfl, hb2⟩
  go_wp2_with fail
  refine (T2 _).mono ?_
  rintro e w3 ⟨rfl, hb3⟩
  go_wp2_with fail
  refine (T3 _).mono ?_
  rintro e w4 ⟨rfl, hb4⟩
  go_wp2_with fail
  refine (T4 _).mono ?_
  rintro e w5 ⟨rfl, hb5⟩
  go_wp2_with fail
  refine (T5 _).mono ?_
  rintro e w6 ⟨rfl, hb6⟩
  have hB0 : w.heap.size < (w.alloc (.cells #[.int .i64 0, .int .i64 0, .int .i64 0, .int .u64 0, .int .u64 0, .string ⟨#[]⟩] 30)).heap.size := by simp
  have hB6 := (hb1.trans ((hb2.mono hb1.size).trans ((hb3.mono (Nat.le_trans hb1.size hb2.size)).trans ((hb4.mono (Nat.le_trans (Nat.le_trans hb1.size hb2.size) hb3.size)).trans
    ((hb5.mono (Nat.le_trans (Nat.le_trans (Nat.le_trans hb1.size hb2.size) hb3.size) hb4.size)).trans (hb6.mono (Nat.le_trans (Nat.le_trans (Nat.le_trans (Nat.le_trans hb1.size hb2.size) hb3.size) hb4.size) hb5.size)))))))
  have hL : w.heap.size < w6.heap.size := Nat.lt_of_lt_of_le hB0 hB6.size
  have hw6 : Below w.heap.size w w6 := (below_box _ _).trans (hB6.mono (below_box _ _).size)
  have e6 := (ent_box w 0 0 0 0 0 ⟨#[]⟩ 30).below hB0 hB6
  have g6 := (ent_free w #[.int .i64 0, .int .i64 0, .int .i64 0, .int .u64 0, .int .u64 0, .string ⟨#[]⟩] 30).below hB0 hB6
  clear hB6 hb1 hb2 hb3 hb4 hb5 hb6 hB0
  obtain ⟨c0, c1, c2, c3, c4, c5⟩ := e6
  obtain ⟨f0, f1, f2, f3, f4, f5⟩ := g6
  go_wp2_with fail
  have hs : (entSet w.heap.size 0 0 0 0 0 ⟨#[]⟩ w6).heap.size = w6.heap.size := by simp [entSet]
  have a1 := below_box (entSet w.heap.size 0 0 0 0 0 ⟨#[]⟩ w6) (.cells #[.int .i64 (k : Int), .int .i64 (sv : Int), .int .i64 (g : Int), .int .u64 (se : Int), .int .u64 (n : Int), .string t] 30)
  obtain ⟨d0, d1, d2, d3, d4, d5⟩ : EntAt w.heap.size 0 0 0 0 0 ⟨#[]⟩ ((entSet w.heap.size 0 0 0 0 0 ⟨#[]⟩ w6).alloc (.cells #[.int .i64 (k : Int), .int .i64 (sv : Int), .int .i64 (g : Int), .int .u64 (se : Int), .int .u64 (n : Int), .string t] 30)) := (entSet_at ⟨c0, c1, c2, c3, c4, c5⟩).below (by rw [hs]; exact hL) a1
  refine bodyPost_ret (w := (entSet w.heap.size 0 0 0 0 0 ⟨#[]⟩ w6).alloc (.cells #[.int .i64 (k : Int), .int .i64 (sv : Int), .int .i64 (g : Int), .int .u64 (se : Int), .int .u64 (n : Int), .string t] 30)) (v := .tuple #[.agg #[.int .i64 0, .int .i64 0, .int .i64 0, .int .u64 0, .int .u64 0, .string ⟨#[]⟩], .int .i64 30]) (by simp [results, Try.results55, go_sem, d0, d1, d2, d3, d4, d5]) rfl ⟨rfl, ?_⟩
  exact (entSet_below (Nat.le_refl _) hw6).trans (a1.mono (by rw [hs]; exact Nat.le_of_lt hL))

set_option maxHeartbeats 1000000 in
theorem rdecode_may (s0 s1 s2 s3 s4 s5 t : ByteArray) (k sv g se n : Nat) (hm : Ent.may k sv g se n t = false) (h28 : ((s0.size : Int) == 28) = true)
    (q1 : IntKind.i64.wrap (k : Int) = k) (q2 : IntKind.i64.wrap (sv : Int) = sv) (q3 : IntKind.i64.wrap (g : Int) = g)
    (T0 : ∀ w, Calls Try.prog 54 #[.string s0, .int .i64 1] w fun e w' => e = .returned (.tuple #[.int .u64 (k : Int), .string s1, .bool true]) ∧ Below w.heap.size w w')
    (T1 : ∀ w, Calls Try.prog 54 #[.string s1, .int .i64 1] w fun e w' => e = .returned (.tuple #[.int .u64 (sv : Int), .string s2, .bool true]) ∧ Below w.heap.size w w')
    (T2 : ∀ w, Calls Try.prog 54 #[.string s2, .int .i64 1] w fun e w' => e = .returned (.tuple #[.int .u64 (g : Int), .string s3, .bool true]) ∧ Below w.heap.size w w')
    (T3 : ∀ w, Calls Try.prog 54 #[.string s3, .int .i64 2] w fun e w' => e = .returned (.tuple #[.int .u64 (se : Int), .string s4, .bool true]) ∧ Below w.heap.size w w')
    (T4 : ∀ w, Calls Try.prog 54 #[.string s4, .int .i64 4] w fun e w' => e = .returned (.tuple #[.int .u64 (n : Int), .string s5, .bool true]) ∧ Below w.heap.size w w')
    (T5 : ∀ w, Calls Try.prog 66 #[.string s5, .int .i64 16] w fun e w' => e = .returned (.tuple #[.string t, .string ⟨#[0, 0]⟩, .bool true]) ∧ Below w.heap.size w w') (w : World) :
    Calls Try.prog 55 #[.string s0] w fun e w' => e = .returned (.tuple #[.agg #[.int .i64 0, .int .i64 0, .int .i64 0, .int .u64 0, .int .u64 0, .string ⟨#[]⟩], .int .i64 30]) ∧ Below w.heap.size w w' := by
  have h := fun w => rmay_any k sv g se n t w
  rw [hm] at h
  clear hm
  go_enter Try.func55, Try.ntmps55
  go_wp2_with fail
  refine (T0 _).mono ?_
  rintro e w1 ⟨rfl, hb1⟩
  go_wp2_with fail
  refine (T1 _).mono ?_
  rintro e w2 ⟨rfl, hb2⟩
  go_wp2_with fail
  refine (T2 _).mono ?_
  rintro e w3 ⟨rfl, hb3⟩
  go_wp2_with fail
  refine (T3 _).mono ?_
  rintro e w4 ⟨rfl, hb4⟩
  go_wp2_with fail
  refine (T4 _).mono ?_
  rintro e w5 ⟨rfl, hb5⟩
  go_wp2_with fail
  refine (T5 _).mono ?_
  rintro e w6 ⟨rfl, hb6⟩
  have hB0 : w.heap.size < (w.alloc (.cells #[.int .i64 0, .int .i64 0, .int .i64 0, .int .u64 0, .int .u64 0, .string ⟨#[]⟩] 30)).heap.size := by simp
  have hB6 := (hb1.trans ((hb2.mono hb1.size).trans ((hb3.mono (Nat.le_trans hb1.size hb2.size)).trans ((hb4.mono (Nat.le_trans (Nat.le_trans hb1.size hb2.size) hb3.size)).trans
    ((hb5.mono (Nat.le_trans (Nat.le_trans (Nat.le_trans hb1.size hb2.size) hb3.size) hb4.size)).trans (hb6.mono (Nat.le_trans (Nat.le_trans (Nat.le_trans (Nat.le_trans hb1.size hb2.size) hb3.size) hb4.size) hb5.size)))))))
  have hL : w.heap.size < w6.heap.size := Nat.lt_of_lt_of_le hB0 hB6.size
  have hw6 : Below w.heap.size w w6 := (below_box _ _).trans (hB6.mono (below_box _ _).size)
  have e6 := (ent_box w 0 0 0 0 0 ⟨#[]⟩ 30).below hB0 hB6
  have g6 := (ent_free w #[.int .i64 0, .int .i64 0, .int .i64 0, .int .u64 0, .int .u64 0, .string ⟨#[]⟩] 30).below hB0 hB6
  clear hB6 hb1 hb2 hb3 hb4 hb5 hb6 hB0
  have a1 := below_box w6 (.cells #[.int .i64 (k : Int), .int .i64 (sv : Int), .int .i64 (g : Int), .int .u64 (se : Int), .int .u64 (n : Int), .string t] 30)
  have hL2 : w.heap.size < (w6.alloc (.cells #[.int .i64 (k : Int), .int .i64 (sv : Int), .int .i64 (g : Int), .int .u64 (se : Int), .int .u64 (n : Int), .string t] 30)).heap.size := Nat.lt_of_lt_of_le hL a1.size
  go_wp2_with fail
  refine (h _).mono ?_
  rintro e w7 ⟨rfl, hb7⟩
  obtain ⟨c0, c1, c2, c3, c4, c5⟩ := (e6.below hL a1).below hL2 hb7
  obtain ⟨f0, f1, f2, f3, f4, f5⟩ := (g6.below hL a1).below hL2 hb7
  have hw7 : Below w.heap.size w w7 := hw6.trans ((a1.mono (Nat.le_of_lt hL)).trans (hb7.mono (Nat.le_of_lt hL2)))
  go_wp2_with fail
  obtain ⟨d0, d1, d2, d3, d4, d5⟩ : EntAt w.heap.size 0 0 0 0 0 ⟨#[]⟩ (entSet w.heap.size 0 0 0 0 0 ⟨#[]⟩ w7) := entSet_at ⟨c0, c1, c2, c3, c4, c5⟩
  refine bodyPost_ret (w := entSet w.heap.size 0 0 0 0 0 ⟨#[]⟩ w7) (v := .tuple #[.agg #[.int .i64 0, .int .i64 0, .int .i64 0, .int .u64 0, .int .u64 0, .string ⟨#[]⟩], .int .i64 30]) (by simp [results, Try.results55, go_sem, d0, d1, d2, d3, d4, d5]) rfl ⟨rfl, ?_⟩
  exact entSet_below (Nat.le_refl _) hw7

set_option maxHeartbeats 1000000 in
theorem rdecode_ok (s0 s1 s2 s3 s4 s5 t : ByteArray) (k sv g se n : Nat) (hm : Ent.may k sv g se n t = true) (h28 : ((s0.size : Int) == 28) = true)
    (q1 : IntKind.i64.wrap (k : Int) = k) (q2 : IntKind.i64.wrap (sv : Int) = sv) (q3 : IntKind.i64.wrap (g : Int) = g)
    (T0 : ∀ w, Calls Try.prog 54 #[.string s0, .int .i64 1] w fun e w' => e = .returned (.tuple #[.int .u64 (k : Int), .string s1, .bool true]) ∧ Below w.heap.size w w')
    (T1 : ∀ w, Calls Try.prog 54 #[.string s1, .int .i64 1] w fun e w' => e = .returned (.tuple #[.int .u64 (sv : Int), .string s2, .bool true]) ∧ Below w.heap.size w w')
    (T2 : ∀ w, Calls Try.prog 54 #[.string s2, .int .i64 1] w fun e w' => e = .returned (.tuple #[.int .u64 (g : Int), .string s3, .bool true]) ∧ Below w.heap.size w w')
    (T3 : ∀ w, Calls Try.prog 54 #[.string s3, .int .i64 2] w fun e w' => e = .returned (.tuple #[.int .u64 (se : Int), .string s4, .bool true]) ∧ Below w.heap.size w w')
    (T4 : ∀ w, Calls Try.prog 54 #[.string s4, .int .i64 4] w fun e w' => e = .returned (.tuple #[.int .u64 (n : Int), .string s5, .bool true]) ∧ Below w.heap.size w w')
    (T5 : ∀ w, Calls Try.prog 66 #[.string s5, .int .i64 16] w fun e w' => e = .returned (.tuple #[.string t, .string ⟨#[0, 0]⟩, .bool true]) ∧ Below w.heap.size w w') (w : World) :
    Calls Try.prog 55 #[.string s0] w fun e w' => e = .returned (.tuple #[.agg #[.int .i64 (k : Int), .int .i64 (sv : Int), .int .i64 (g : Int), .int .u64 (se : Int), .int .u64 (n : Int), .string t], .int .i64 0]) ∧ Below w.heap.size w w' := by
  have h := fun w => rmay_any k sv g se n t w
  rw [hm] at h
  clear hm
  go_enter Try.func55, Try.ntmps55
  go_wp2_with fail
  refine (T0 _).mono ?_
  rintro e w1 ⟨rfl, hb1⟩
  go_wp2_with fail
  refine (T1 _).mono ?_
  rintro e w2 ⟨rfl, hb2⟩
  go_wp2_with fail
  refine (T2 _).mono ?_
  rintro e w3 ⟨rfl, hb3⟩
  go_wp2_with fail
  refine (T3 _).mono ?_
  rintro e w4 ⟨rfl, hb4⟩
  go_wp2_with fail
  refine (T4 _).mono ?_
  rintro e w5 ⟨rfl, hb5⟩
  go_wp2_with fail
  refine (T5 _).mono ?_
  rintro e w6 ⟨rfl, hb6⟩
  have hB0 : w.heap.size < (w.alloc (.cells #[.int .i64 0, .int .i64 0, .int .i64 0, .int .u64 0, .int .u64 0, .string ⟨#[]⟩] 30)).heap.size := by simp
  have hB6 := (hb1.trans ((hb2.mono hb1.size).trans ((hb3.mono (Nat.le_trans hb1.size hb2.size)).trans ((hb4.mono (Nat.le_trans (Nat.le_trans hb1.size hb2.size) hb3.size)).trans
    ((hb5.mono (Nat.le_trans (Nat.le_trans (Nat.le_trans hb1.size hb2.size) hb3.size) hb4.size)).trans (hb6.mono (Nat.le_trans (Nat.le_trans (Nat.le_trans (Nat.le_trans hb1.size hb2.size) hb3.size) hb4.size) hb5.size)))))))
  have hL : w.heap.size < w6.heap.size := Nat.lt_of_lt_of_le hB0 hB6.size
  have hw6 : Below w.heap.size w w6 := (below_box _ _).trans (hB6.mono (below_box _ _).size)
  have e6 := (ent_box w 0 0 0 0 0 ⟨#[]⟩ 30).below hB0 hB6
  have g6 := (ent_free w #[.int .i64 0, .int .i64 0, .int .i64 0, .int .u64 0, .int .u64 0, .string ⟨#[]⟩] 30).below hB0 hB6
  clear hB6 hb1 hb2 hb3 hb4 hb5 hb6 hB0
  have a1 := below_box w6 (.cells #[.int .i64 (k : Int), .int .i64 (sv : Int), .int .i64 (g : Int), .int .u64 (se : Int), .int .u64 (n : Int), .string t] 30)
  have hL2 : w.heap.size < (w6.alloc (.cells #[.int .i64 (k : Int), .int .i64 (sv : Int), .int .i64 (g : Int), .int .u64 (se : Int), .int .u64 (n : Int), .string t] 30)).heap.size := Nat.lt_of_lt_of_le hL a1.size
  go_wp2_with fail
  refine (h _).mono ?_
  rintro e w7 ⟨rfl, hb7⟩
  obtain ⟨c0, c1, c2, c3, c4, c5⟩ := (e6.below hL a1).below hL2 hb7
  obtain ⟨f0, f1, f2, f3, f4, f5⟩ := (g6.below hL a1).below hL2 hb7
  have hw7 : Below w.heap.size w w7 := hw6.trans ((a1.mono (Nat.le_of_lt hL)).trans (hb7.mono (Nat.le_of_lt hL2)))
  obtain ⟨g0, g1, g2, g3, g4, g5⟩ := ent_kept hb7
  have hne : (w.heap.size == w6.heap.size) = false := by rw [beq_eq_false_iff_ne]; omega
  go_wp2_with fail
  obtain ⟨d0, d1, d2, d3, d4, d5⟩ : EntAt w.heap.size k sv g se n t (entSet w.heap.size k sv g se n t w7) := entSet_at ⟨c0, c1, c2, c3, c4, c5⟩
  refine bodyPost_ret (w := entSet w.heap.size k sv g se n t w7) (v := .tuple #[.agg #[.int .i64 (k : Int), .int .i64 (sv : Int), .int .i64 (g : Int), .int .u64 (se : Int), .int .u64 (n : Int), .string t], .int .i64 0]) (by simp [results, Try.results55, go_sem, d0, d1, d2, d3, d4, d5]) rfl ⟨rfl, ?_⟩
  exact entSet_below (Nat.le_refl _) hw7

end Go.Proofs.Ytmbddjejbmjmfaa
