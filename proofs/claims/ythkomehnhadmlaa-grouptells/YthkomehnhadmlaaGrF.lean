/-
  The calls of tables whose answers the document fixes: they answer so.
  No condition.
-/
import Derived.Test.YthkomehnhadmlaaGrD
namespace Go.Proofs.Ythkomehnhadmlaa
set_option maxRecDepth 10000
open Go.RowKit Go.Sort
set_option linter.unusedVariables false
set_option linter.unusedSimpArgs false

set_option maxHeartbeats 1000000 in
theorem join_ok (s : Nat) (w : World) : Calls Try.prog 30 #[.int .u64 (s : Int)] w fun e w' => e = .returned (.agg (En.mk 2 2 1 s 0 ⟨#[]⟩).arr) ∧ Below w.heap.size w w' := by
  have b9 := blk_new w (En.mk 2 2 1 s 0 ⟨#[]⟩).arr 25
  have hB := below_box w (.cells (En.mk 2 2 1 s 0 ⟨#[]⟩).arr 25)
  go_enter Try.func30, Try.ntmps30
  go_wp2_with (first | refine alloc_zero zeroEn rfl rfl ?_ | (refine build_as rfl 25 #[(0, .const (.int .i64 2)), (1, .const (.int .i64 2)), (2, .const (.int .i64 1)), (3, .tmp 3)] rfl (C := (En.mk 2 2 1 s 0 ⟨#[]⟩).arr) ?_ ?_; kernel_rfl) | refine store_new rfl 25 _ _ rfl (cells := (En.mk 2 2 1 s 0 ⟨#[]⟩).arr) rfl rfl sizeEn rfl (En.arr_one _) ?_)
  refine bodyPost_ret (w := w.alloc (.cells (En.mk 2 2 1 s 0 ⟨#[]⟩).arr 25)) (v := .agg (En.mk 2 2 1 s 0 ⟨#[]⟩).arr) (ret_one rfl rfl b9 Try.underlying25 rfl sizeEn) rfl ⟨rfl, hB⟩

theorem Lg.cap2 {T : TypeId} {B : Nat} {a : Option Addr} {c : Nat} {L : List Mr} {w : World} (h : Lg Mr.vals 3 T B a c L w) : L.length ≤ c ∧ c ≤ 9223372036854775807 := by
  rcases h with ⟨_, rfl, rfl⟩ | ⟨g, _, _, h⟩
  · simp
  · have := h.len
    simp only [maxLen] at this
    omega

set_option maxHeartbeats 4000000 in
theorem fixed_ok (w : World) : Calls Try.prog 11 #[] w fun e w' => e = .returned (.bool true) ∧ Below w.heap.size w w' := by
  have q1 : ∀ w, Calls Try.prog 7 #[.slice none 0 0, .int .i64 2, .agg (En.mk 2 2 1 5 0 ⟨#[]⟩).arr] w fun e w' => (∃ a c, e = .returned (.tuple #[.slice a 1 c, .bool true]) ∧ Lg Mr.vals 3 35 w.heap.size a c ([⟨1, 2, 5⟩] : List Mr) w') ∧ Below w.heap.size w w' := fun w => by
    have h := gapply_ok 2 (En.mk 2 2 1 5 0 ⟨#[]⟩) ([] : List Mr) none 0 (by decide) (by decide) (by decide) w (.inl rfl)
    unfold AppM at h
    rw [show appM (En.mk 2 2 1 5 0 ⟨#[]⟩).k ⟨(En.mk 2 2 1 5 0 ⟨#[]⟩).g, 2, (En.mk 2 2 1 5 0 ⟨#[]⟩).se⟩ ([] : List Mr) = ([⟨1, 2, 5⟩] : List Mr) from by kernel_rfl, show didM (En.mk 2 2 1 5 0 ⟨#[]⟩).k ⟨(En.mk 2 2 1 5 0 ⟨#[]⟩).g, 2, (En.mk 2 2 1 5 0 ⟨#[]⟩).se⟩ ([] : List Mr) = true from by kernel_rfl] at h
    exact h
  have q2 : ∀ B a c w, Lg Mr.vals 3 35 B a c ([⟨1, 2, 5⟩] : List Mr) w → Calls Try.prog 7 #[.slice a 1 c, .int .i64 0, .agg (En.mk 2 2 1 9 0 ⟨#[]⟩).arr] w fun e w' => (∃ a c, e = .returned (.tuple #[.slice a 2 c, .bool true]) ∧ Lg Mr.vals 3 35 w.heap.size a c ([⟨1, 0, 9⟩, ⟨1, 2, 5⟩] : List Mr) w') ∧ Below w.heap.size w w' := fun B a c w hl => by
    have h := gapply_ok 0 (En.mk 2 2 1 9 0 ⟨#[]⟩) ([⟨1, 2, 5⟩] : List Mr) a c (by decide) hl.cap2.1 hl.cap2.2 w (hl.li.mono (Nat.zero_le _))
    unfold AppM at h
    rw [show appM (En.mk 2 2 1 9 0 ⟨#[]⟩).k ⟨(En.mk 2 2 1 9 0 ⟨#[]⟩).g, 0, (En.mk 2 2 1 9 0 ⟨#[]⟩).se⟩ ([⟨1, 2, 5⟩] : List Mr) = ([⟨1, 0, 9⟩, ⟨1, 2, 5⟩] : List Mr) from by kernel_rfl, show didM (En.mk 2 2 1 9 0 ⟨#[]⟩).k ⟨(En.mk 2 2 1 9 0 ⟨#[]⟩).g, 0, (En.mk 2 2 1 9 0 ⟨#[]⟩).se⟩ ([⟨1, 2, 5⟩] : List Mr) = true from by kernel_rfl] at h
    exact h
  have q3 : ∀ B a c w, Lg Mr.vals 3 35 B a c ([⟨1, 0, 9⟩, ⟨1, 2, 5⟩] : List Mr) w → Calls Try.prog 7 #[.slice a 2 c, .int .i64 0, .agg (En.mk 2 2 1 9 0 ⟨#[]⟩).arr] w fun e w' => (∃ a c, e = .returned (.tuple #[.slice a 2 c, .bool false]) ∧ Lg Mr.vals 3 35 w.heap.size a c ([⟨1, 0, 9⟩, ⟨1, 2, 5⟩] : List Mr) w') ∧ Below w.heap.size w w' := fun B a c w hl => by
    have h := gapply_ok 0 (En.mk 2 2 1 9 0 ⟨#[]⟩) ([⟨1, 0, 9⟩, ⟨1, 2, 5⟩] : List Mr) a c (by decide) hl.cap2.1 hl.cap2.2 w (hl.li.mono (Nat.zero_le _))
    unfold AppM at h
    rw [show appM (En.mk 2 2 1 9 0 ⟨#[]⟩).k ⟨(En.mk 2 2 1 9 0 ⟨#[]⟩).g, 0, (En.mk 2 2 1 9 0 ⟨#[]⟩).se⟩ ([⟨1, 0, 9⟩, ⟨1, 2, 5⟩] : List Mr) = ([⟨1, 0, 9⟩, ⟨1, 2, 5⟩] : List Mr) from by kernel_rfl, show didM (En.mk 2 2 1 9 0 ⟨#[]⟩).k ⟨(En.mk 2 2 1 9 0 ⟨#[]⟩).g, 0, (En.mk 2 2 1 9 0 ⟨#[]⟩).se⟩ ([⟨1, 0, 9⟩, ⟨1, 2, 5⟩] : List Mr) = false from by kernel_rfl] at h
    exact h
  have q4 : ∀ B a c w, Lg Mr.vals 3 35 B a c ([⟨1, 0, 9⟩, ⟨1, 2, 5⟩] : List Mr) w → Calls Try.prog 13 #[.slice a 2 c, .int .i64 1] w fun e w' => (∃ a c, e = .returned (.slice a 2 c) ∧ Lg Mr.vals 3 35 w.heap.size a c ([⟨1, 0, 9⟩, ⟨1, 2, 5⟩] : List Mr) w') ∧ Below w.heap.size w w' := fun B a c w hl => by
    have h := gview_ok 1 ([⟨1, 0, 9⟩, ⟨1, 2, 5⟩] : List Mr) a c (by decide) w (hl.li.mono (Nat.zero_le _))
    unfold MadeMr at h
    rw [show viewM 1 ([⟨1, 0, 9⟩, ⟨1, 2, 5⟩] : List Mr) = ([⟨1, 0, 9⟩, ⟨1, 2, 5⟩] : List Mr) from by kernel_rfl] at h
    exact h
  have q5 : ∀ B a c w, Lg Mr.vals 3 35 B a c ([⟨1, 0, 9⟩, ⟨1, 2, 5⟩] : List Mr) w → Calls Try.prog 15 #[.slice a 2 c, .agg (mbc (fun i => if i = 0 then 1 else 0))] w fun e w' => (∃ a c, e = .returned (.slice a 1 c) ∧ Lg Mr.vals 3 35 w.heap.size a c ([⟨1, 0, 9⟩] : List Mr) w') ∧ Below w.heap.size w w' := fun B a c w hl => by
    have h := gkeep_ok (fun i => if i = 0 then 1 else 0) ([⟨1, 0, 9⟩, ⟨1, 2, 5⟩] : List Mr) a c (by decide) w (hl.li.mono (Nat.zero_le _))
    unfold MadeMr at h
    rw [show keepM (fun i => if i = 0 then 1 else 0) ([⟨1, 0, 9⟩, ⟨1, 2, 5⟩] : List Mr) = ([⟨1, 0, 9⟩] : List Mr) from by kernel_rfl] at h
    exact h
  have q6 : ∀ B a c w, Lg Mr.vals 3 35 B a c ([⟨1, 0, 9⟩, ⟨1, 2, 5⟩] : List Mr) w → Calls Try.prog 13 #[.slice a 2 c, .int .i64 0] w fun e w' => (∃ a c, e = .returned (.slice a 0 c) ∧ Lg Mr.vals 3 35 w.heap.size a c ([] : List Mr) w') ∧ Below w.heap.size w w' := fun B a c w hl => by
    have h := gview_ok 0 ([⟨1, 0, 9⟩, ⟨1, 2, 5⟩] : List Mr) a c (by decide) w (hl.li.mono (Nat.zero_le _))
    unfold MadeMr at h
    rw [show viewM 0 ([⟨1, 0, 9⟩, ⟨1, 2, 5⟩] : List Mr) = ([] : List Mr) from by kernel_rfl] at h
    exact h
  have q7 : ∀ B a c w, Lg Mr.vals 3 35 B a c ([⟨1, 0, 9⟩, ⟨1, 2, 5⟩] : List Mr) w → Calls Try.prog 17 #[.slice a 2 c] w fun e w' => e = .returned (.bool true) ∧ Below w.heap.size w w' := fun B a c w hl => by
    have h := gmay_ok ([⟨1, 0, 9⟩, ⟨1, 2, 5⟩] : List Mr) a c (by decide) w (hl.li.mono (Nat.zero_le _))
    rw [show mayMB ([⟨1, 0, 9⟩, ⟨1, 2, 5⟩] : List Mr) = true from by kernel_rfl] at h
    exact h
  have hB := Below.refl w.heap.size w
  go_enter Try.func11, Try.ntmps11
  go_wp2_with fail
  refine (join_ok 5 _).mono ?_
  rintro r w1 ⟨rfl, hb⟩
  replace hB := below_next hB hb
  clear hb 
  go_wp2_with fail
  refine (q1 _).mono ?_
  rintro r w2 ⟨⟨a1, c1, rfl, h1⟩, hb⟩
  replace hB := below_next hB hb
  clear hb q1
  go_wp2_with fail
  refine (join_ok 9 _).mono ?_
  rintro r w3 ⟨rfl, hb⟩
  replace h1 := h1.below hb
  replace hB := below_next hB hb
  clear hb 
  go_wp2_with fail
  refine (q2 _ _ _ _ h1).mono ?_
  rintro r w4 ⟨⟨a2, c2, rfl, h2⟩, hb⟩
  replace hB := below_next hB hb
  clear hb q2 h1
  go_wp2_with fail
  refine (join_ok 9 _).mono ?_
  rintro r w5 ⟨rfl, hb⟩
  replace h2 := h2.below hb
  replace hB := below_next hB hb
  clear hb 
  go_wp2_with fail
  refine (q3 _ _ _ _ h2).mono ?_
  rintro r w6 ⟨⟨a3, c3, rfl, h3⟩, hb⟩
  replace h2 := h2.below hb
  replace hB := below_next hB hb
  clear hb q3 h3
  go_wp2_with fail
  refine (q4 _ _ _ _ h2).mono ?_
  rintro r w7 ⟨⟨a4, c4, rfl, h4⟩, hb⟩
  replace h2 := h2.below hb
  replace hB := below_next hB hb
  clear hb q4
  go_wp2_with (refine build_as rfl 28 #[(0, .const (.int .u32 1))] rfl (C := mbc (fun i => if i = 0 then 1 else 0)) ?_ ?_; kernel_rfl)
  refine (q5 _ _ _ _ h2).mono ?_
  rintro r w8 ⟨⟨a5, c5, rfl, h5⟩, hb⟩
  replace h2 := h2.below hb
  replace h4 := h4.below hb
  replace hB := below_next hB hb
  clear hb q5 h5
  obtain ⟨g, rfl, hg⟩ : ∃ g, a4 = some ⟨g, 0, none⟩ ∧ w8.rangeAt g 0 (Mr.mk 1 0 9).vals := by
    rcases h4 with ⟨_, _, h⟩ | ⟨g, rfl, _, h⟩
    · cases h
    · refine ⟨g, rfl, ?_⟩
      obtain ⟨b, o, e, _, _, hr⟩ := (h.li (Nat.zero_le g)).at Mr.vals_length 0 ⟨1, 0, 9⟩ rfl
      injection e with e
      injection e with e1 e2 e3
      subst e1 e2
      exact hr
  have z0 : w8.cell? ⟨g, 0, none⟩ = some (.int .i64 1) := hg 0 _ rfl
  have z1 : w8.cell? ⟨g, 1, none⟩ = some (.int .i64 0) := by have := hg 1 _ rfl; simpa using this
  have z2 : w8.cell? ⟨g, 2, none⟩ = some (.int .u64 9) := by have := hg 2 _ rfl; simpa using this
  have hE := eqlMr ⟨1, 0, 9⟩ ⟨1, 0, 9⟩ true rfl
  have hBd : Try.prog.built 35 [(0, .int .i64 1), (2, .int .u64 9)] = some (Mr.mk 1 0 9).arr := by kernel_rfl
  clear h4 hg
  go_wp2_with fail
  refine (q6 _ _ _ _ h2).mono ?_
  rintro r w9 ⟨⟨a6, c6, rfl, h6⟩, hb⟩
  replace h2 := h2.below hb
  replace hB := below_next hB hb
  clear hb q6 h6 z0 z1 z2
  go_wp2_with fail
  refine (q7 _ _ _ _ h2).mono ?_
  rintro r w10 ⟨rfl, hb⟩
  replace hB := below_next hB hb
  clear hb q7 h2
  go_wp2_with fail
  go_ret
  exact ⟨rfl, hB⟩

end Go.Proofs.Ythkomehnhadmlaa
