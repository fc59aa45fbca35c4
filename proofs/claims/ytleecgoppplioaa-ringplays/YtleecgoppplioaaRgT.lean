/-
  The calls whose answers the document fixes answer so: fixed returns true. Of the memory that was there nothing turns.
  No condition.
-/
import Derived.Test.YtleecgoppplioaaRgF
namespace Go.Proofs.Ytleecgoppplioaa
set_option maxRecDepth 10000
open Go.RowKit Go.Sort

def txt (s : ByteArray) : En := ⟨1, 0, 0, 0, 0, s⟩

theorem text_ok (s : ByteArray) (w : World) : Calls Try.prog 19 #[.string s] w fun r w' => r = .returned (.agg (txt s).arr) ∧ Below w.heap.size w w' := by
  go_enter Try.func19, Try.ntmps19
  go_wp2_with (first | refine alloc_zero zeroEn rfl rfl ?_ | refine store_new rfl 30 _ _ rfl rfl rfl (txt s).size rfl (txt s).arr_one ?_)
  refine bodyPost_ret (ret_one Try.results19 rfl (blk_new w (txt s).arr 30) Try.underlying30 rfl (txt s).size) rfl ⟨rfl, below_box _ _⟩

/- What has come of a world, for a ring in it that holds a list. -/
def At (R G room : Nat) (L : List En) (w w' : World) : Prop := Rg R G room L w' ∧ Kp [] w w' ∧ w.heap.size ≤ R ∧ w.heap.size ≤ G
theorem At.below {R G room : Nat} {L : List En} {w w1 w2 : World} (h : At R G room L w w1) (hb : Below w1.heap.size w1 w2) : At R G room L w w2 := ⟨h.1.below hb, h.2.1.trans (Kp.of_below hb), h.2.2⟩
theorem At.alloc {R G room : Nat} {L : List En} {w w1 : World} (h : At R G room L w w1) (o : Obj) : At R G room L w (w1.alloc o) := h.below (below_box _ _)
theorem At.next {R G room : Nat} {L M : List En} {w w1 w2 : World} (h : At R G room L w w1) (hr : Rg R G room M w2) (hk : Kp [R, G] w1 w2) : At R G room M w w2 :=
  ⟨hr, ⟨hk.os.trans h.2.1.os, hk.tape.trans h.2.1.tape, hk.output.trans h.2.1.output, Nat.le_trans h.2.1.size hk.size, fun k hk1 _ => (hk.block k (Nat.lt_of_lt_of_le hk1 h.2.1.size) (by have := h.2.2; simp; omega)).trans (h.2.1.block k hk1 (by simp))⟩, h.2.2⟩
theorem At.ne {R G room : Nat} {L : List En} {w w1 : World} (h : At R G room L w w1) {V : Nat} (hV : w1.heap.size ≤ V) : V ∉ [R, G] := by
  have := h.1.lt
  simp
  omega

set_option maxHeartbeats 8000000 in
theorem fixed_any (w : World) : Calls Try.prog 8 #[] w fun r w' => r = .returned (.bool true) ∧ Below w.heap.size w w' := by
  go_enter Try.func8, Try.ntmps8
  go_wp2_with fail
  refine (new_ok 2 (by decide) w).mono ?_
  rintro r w1 ⟨R, G, rfl, hR, hG, hr, hb⟩
  have s1 : At R G 2 [] w w1 := ⟨hr, Kp.of_below hb, hR, hG⟩
  clear hr hb hR hG
  go_wp2_with fail
  refine (text_ok ⟨#[97]⟩ w1).mono ?_
  rintro r w2 ⟨rfl, hb⟩
  have s2 := s1.below hb
  clear s1 hb
  go_wp2_with fail
  refine (push_in s2.1 (by decide) (txt ⟨#[97]⟩)).mono ?_
  rintro r w3 ⟨rfl, hr, hk⟩
  have s3 := s2.next hr hk
  clear s2 hr hk
  go_wp2_with fail
  refine (text_ok ⟨#[98]⟩ w3).mono ?_
  rintro r w4 ⟨rfl, hb⟩
  have s4 := s3.below hb
  clear s3 hb
  go_wp2_with fail
  refine (push_in s4.1 (by decide) (txt ⟨#[98]⟩)).mono ?_
  rintro r w5 ⟨rfl, hr, hk⟩
  have s5 := s4.next hr hk
  clear s4 hr hk
  go_wp2_with fail
  refine (text_ok ⟨#[99]⟩ w5).mono ?_
  rintro r w6 ⟨rfl, hb⟩
  have s6 := s5.below hb
  clear s5 hb
  go_wp2_with fail
  refine (push_no s6.1 (by decide) (txt ⟨#[99]⟩)).mono ?_
  rintro r w7 ⟨rfl, hr, hk⟩
  have s7 := s6.next hr hk
  clear s6 hr hk
  go_wp2_with fail
  refine (pop_cons s7.1).mono ?_
  rintro r w8 ⟨rfl, hr, hk⟩
  have s8 := (s7.next hr hk).alloc (.cells (txt ⟨#[97]⟩).arr 30)
  have x8 := blk_new w8 (txt ⟨#[97]⟩).arr 30
  have y8 : w8.heap.size ∉ [R, G] := (s7.next hr hk).ne (Nat.le_refl _)
  clear s7 hr hk
  go_wp2_with (first | refine alloc_zero zeroEn rfl rfl ?_ | refine store_new rfl 30 _ _ rfl rfl rfl (txt ⟨#[97]⟩).size rfl (txt ⟨#[97]⟩).arr_one ?_)
  refine (text_ok ⟨#[99]⟩ _).mono ?_
  rintro r w9 ⟨rfl, hb⟩
  have s9 := s8.below hb
  have x9 := x8.below hb
  clear s8 x8 hb
  go_wp2_with fail
  refine (push_in s9.1 (by decide) (txt ⟨#[99]⟩)).mono ?_
  rintro r w10 ⟨rfl, hr, hk⟩
  have s10 := s9.next hr hk
  have x10 := x9.kp hk y8
  clear s9 hr hk x9
  go_wp2_with fail
  refine (pop_cons s10.1).mono ?_
  rintro r w11 ⟨rfl, hr, hk⟩
  have s11 := (s10.next hr hk).alloc (.cells (txt ⟨#[98]⟩).arr 30)
  have x11 := (x10.kp hk y8).alloc (.cells (txt ⟨#[98]⟩).arr 30)
  have u11 := blk_new w11 (txt ⟨#[98]⟩).arr 30
  have v11 : w11.heap.size ∉ [R, G] := (s10.next hr hk).ne (Nat.le_refl _)
  clear s10 hr hk x10
  go_wp2_with (first | refine alloc_zero zeroEn rfl rfl ?_ | refine store_new rfl 30 _ _ rfl rfl rfl (txt ⟨#[98]⟩).size rfl (txt ⟨#[98]⟩).arr_one ?_)
  refine (pop_cons s11.1).mono ?_
  rintro r w12 ⟨rfl, hr, hk⟩
  have s12 := (s11.next hr hk).alloc (.cells (txt ⟨#[99]⟩).arr 30)
  have x12 := (x11.kp hk y8).alloc (.cells (txt ⟨#[99]⟩).arr 30)
  have u12 := (u11.kp hk v11).alloc (.cells (txt ⟨#[99]⟩).arr 30)
  have z12 := blk_new w12 (txt ⟨#[99]⟩).arr 30
  have n12 : w12.heap.size ∉ [R, G] := (s11.next hr hk).ne (Nat.le_refl _)
  clear s11 hr hk x11 u11
  go_wp2_with (first | refine alloc_zero zeroEn rfl rfl ?_ | refine store_new rfl 30 _ _ rfl rfl rfl (txt ⟨#[99]⟩).size rfl (txt ⟨#[99]⟩).arr_one ?_)
  refine (pop_nil s12.1).mono ?_
  rintro r w13 ⟨rfl, hr, hk⟩
  have s13 := (s12.next hr hk).alloc (.cells En.zero.arr 30)
  have x13 := (x12.kp hk y8).alloc (.cells En.zero.arr 30)
  have u13 := (u12.kp hk v11).alloc (.cells En.zero.arr 30)
  have z13 := (z12.kp hk n12).alloc (.cells En.zero.arr 30)
  clear s12 hr hk x12 u12 z12
  go_wp2_with (first | refine alloc_zero zeroEn rfl rfl ?_ | refine store_new rfl 30 _ _ rfl rfl rfl En.zero.size rfl En.zero.arr_one ?_)
  refine (new_no 65 (by decide) _).mono ?_
  rintro r w14 ⟨rfl, rfl⟩
  generalize w13.alloc (.cells En.zero.arr 30) = w15 at *
  have p0 : ∀ d os, Calls Try.prog 19 #[.string ⟨#[97]⟩] (grow (redrawn w15 d) os) fun e w'' => e = .returned (.agg (txt ⟨#[97]⟩).arr) ∧ ∃ p : Regrown, w'' = grow (redrawn w15 p.d) p.os := fun d os => Calls.regrown_of (text_ok _ _)
  have p1 : ∀ d os, Calls Try.prog 19 #[.string ⟨#[98]⟩] (grow (redrawn w15 d) os) fun e w'' => e = .returned (.agg (txt ⟨#[98]⟩).arr) ∧ ∃ p : Regrown, w'' = grow (redrawn w15 p.d) p.os := fun d os => Calls.regrown_of (text_ok _ _)
  have p2 : ∀ d os, Calls Try.prog 19 #[.string ⟨#[99]⟩] (grow (redrawn w15 d) os) fun e w'' => e = .returned (.agg (txt ⟨#[99]⟩).arr) ∧ ∃ p : Regrown, w'' = grow (redrawn w15 p.d) p.os := fun d os => Calls.regrown_of (text_ok _ _)
  have p3 : ∀ d os, Calls Try.prog 18 #[.pointer (some ⟨R, 0, none⟩)] (grow (redrawn w15 d) os) fun e w'' => e = .returned (.int .i64 2) ∧ ∃ p : Regrown, w'' = grow (redrawn w15 p.d) p.os := fun d os => Calls.regrown_of ((room_ok (s13.1.below (below_regrown w15 d os))).mono fun r w' h => ⟨h.1, by rw [h.2]; exact Below.refl _ _⟩)
  have e0 := eqlEn (txt ⟨#[97]⟩) (txt ⟨#[97]⟩) true (En.same_self _)
  have e1 := eqlEn (txt ⟨#[98]⟩) (txt ⟨#[98]⟩) true (En.same_self _)
  have e2 := eqlEn (txt ⟨#[99]⟩) (txt ⟨#[99]⟩) true (En.same_self _)
  have q0 := x13.regrown
  have q1 := u13.regrown
  have q2 := z13.regrown
  have hfin := s13.2.1.all
  clear s13 x13 u13 z13 y8 v11 n12
  go_wp2_with fail
  refine wp_region_quiet_below (by kernel_rfl) (by kernel_rfl) ?_
  repeat (first
    | (go_big_quiet_want; refine quiet_load rfl rfl q0 Try.underlying30 rfl (En.size _) ?_; simp only [Act.put, List.setIfInBounds_toArray, List.set_cons_zero, List.set_cons_succ]; go_big_quiet_on)
    | (go_big_quiet_want; refine quiet_load rfl rfl q1 Try.underlying30 rfl (En.size _) ?_; simp only [Act.put, List.setIfInBounds_toArray, List.set_cons_zero, List.set_cons_succ]; go_big_quiet_on)
    | (go_big_quiet_want; refine quiet_load rfl rfl q2 Try.underlying30 rfl (En.size _) ?_; simp only [Act.put, List.setIfInBounds_toArray, List.set_cons_zero, List.set_cons_succ]; go_big_quiet_on)
    | go_big_quiet_step (first | with_reducible exact p0 _ _ | with_reducible exact p1 _ _ | with_reducible exact p2 _ _ | with_reducible exact p3 _ _))
  refine wpQuiet_nil ?_
  intro _ hw'
  obtain ⟨⟨dq, osq⟩, hw''⟩ := hw'
  subst hw''
  go_wp2_with fail
  go_ret
  exact ⟨rfl, hfin.trans ((below_regrown w15 dq osq).mono hfin.size)⟩

end Go.Proofs.Ytleecgoppplioaa
