/-
  The calls whose answers the document fixes answer so: fixed returns true. Of the memory that was there nothing turns.
  No condition.
-/
import Derived.Test.YtdpghocgljnobaaFrFx
namespace Go.Proofs.Ytdpghocgljnobaa
open Go.RowKit Go.Sort

def hiFr : Nat → En := withL zeroFr 1 [hi]

theorem hi_may : Fr.may hiFr = true := by decide +kernel
theorem hi_lane : laneL hiFr 1 = [hi] := by kernel_rfl
theorem hi_cut : ((Fr.bytes hiFr).extract 56 84) = hi.bytes := by decide +kernel

theorem Blk.regrown {B : Nat} {C : Array Value} {T : TypeId} {w : World} (h : Blk B C T w) : ∀ w', (∃ p : Regrown, w' = grow (redrawn w p.d) p.os) → Blk B C T w' := by
  rintro w' ⟨p, rfl⟩
  exact h.below (below_regrown w p.d p.os)

set_option maxHeartbeats 2000000 in
theorem fixed_any (w : World) : Calls Try.prog 12 #[] w fun r w' => r = .returned (.bool true) ∧ Below w.heap.size w w' := by
  have hwith := fun (a : Option Addr) (c : Nat) (w : World) (hL : Sl a [hi] w) => frWith zeroFr 1 a [hi] c w hL
  have henc := fun w => frEncode hiFr w
  rw [hi_may] at henc
  have hlane := fun w => frLane hiFr 1 w
  rw [hi_lane] at hlane
  have hlen : (Fr.bytes hiFr).size = 168 := Fr.bytes_size hiFr
  have hcut := hi_cut
  have hnone := fun w => lane_none hiFr 0 (by decide) (by kernel_rfl) (by kernel_rfl) w
  have hbytes := fun w => enBytes hi (by decide +kernel) w
  have hdec := fun w => frDecode_long ⟨#[]⟩ (by decide) w
  have hfs := frc_size hiFr
  have hf1 := frc_one hiFr
  have keq := eql_ent 1 0 1 3 4 ⟨#[104, 105]⟩ 1 0 1 3 4 ⟨#[104, 105]⟩ true (by decide)
  change ∀ a c w, Sl a [hi] w → Calls Try.prog 18 #[.agg (frc zeroFr), .int .i64 1, .slice a 1 c] w fun r w' => r = .returned (.agg (frc hiFr)) ∧ Below w.heap.size w w' at hwith
  change ∀ w, Calls Try.prog 8 #[.agg (frc hiFr)] w fun r w' => r = .returned (.tuple #[.string (Fr.bytes hiFr), .int .i64 0]) ∧ Below w.heap.size w w' at henc
  change ∀ w, Calls Try.prog 16 #[.agg (frc hiFr), .int .i64 0] w fun r w' => r = .returned (.slice none 0 0) ∧ Below w.heap.size w w' at hnone
  change ∀ w, Calls Try.prog 23 #[.agg #[.int .i64 1, .int .i64 0, .int .i64 1, .int .u64 3, .int .u64 4, .string ⟨#[104, 105]⟩]] w fun r w' => r = .returned (.string hi.bytes) ∧ Below w.heap.size w w' at hbytes
  generalize Fr.bytes hiFr = bs at henc hlen hcut
  generalize hi.bytes = hb at hbytes hcut
  have hx : ((bs.extract 56 84).toList == hb.toList) = true := by rw [hcut]; simp
  have hl8 : ((bs.size : Int) == 168) = true := by rw [hlen]; rfl
  have hl9 : (84 : Int) ≤ bs.size := by rw [hlen]; decide
  clear hcut hlen
  go_enter Try.func12, Try.ntmps12
  go_wp2_with (refine build_fr rfl rfl ?_)
  refine (some_ok _).mono ?_
  rintro r w1 ⟨rfl, hb1⟩
  have hw1 := hb1.alloc hb1.size (.cells hi.vals.toArray 24)
  have hS : Sl (some ⟨w1.heap.size, 0, none⟩) [hi] (w1.alloc (.cells hi.vals.toArray 24)) := .inr ⟨_, _, rfl, by simp, (blk_new w1 hi.vals.toArray 24).range 0 _ rfl⟩
  clear hb1
  go_wp2_with fail
  refine (hwith _ _ _ hS).mono ?_
  rintro r w2 ⟨rfl, hb2⟩
  have hw2 := hw1.trans (hb2.mono hw1.size)
  have hw3 := hw2.alloc hw2.size (.cells (frc hiFr) 27)
  have hF := blk_new w2 (frc hiFr) 27
  clear hb2 hw1 hS hwith
  go_wp2_with (first | refine alloc_fr rfl rfl ?_ | refine store_new rfl 27 _ _ rfl rfl rfl (by rw [hfs]; exact size27) (by rw [hfs, frc_size]) hf1 ?_ | refine load_blk rfl 27 _ rfl hF rfl Try.underlying27 rfl (by rw [hfs]; exact size27) ?_)
  refine (henc _).mono ?_
  rintro r w3 ⟨rfl, hb3⟩
  have hF3 := hF.below hb3
  have hw4 := hw3.trans (hb3.mono hw3.size)
  clear hb3 hF hw3 hw2 henc
  go_wp2_with fail
  refine (hdec _).mono ?_
  rintro r w4 ⟨rfl, hb4⟩
  have hw5 := (hw4.trans (hb4.mono hw4.size))
  have hw6 := hw5.alloc hw5.size (.cells (frc zeroFr) 27)
  have hF4 := (hF3.below hb4).alloc (.cells (frc zeroFr) 27)
  clear hF3 hw4 hb4 hw5
  go_wp2_with (first | refine alloc_fr rfl rfl ?_ | refine store_new rfl 27 _ _ rfl rfl rfl (by rw [frc_size]; exact size27) rfl (frc_one _) ?_ | refine load_blk rfl 27 _ rfl hF4 rfl Try.underlying27 rfl (by rw [hfs]; exact size27) ?_)
  refine (hlane _).mono ?_
  rintro r w5 ⟨a, c, rfl, hS, hb5⟩
  have hF5 := hF4.below hb5
  have hw7 := hw6.trans (hb5.mono hw6.size)
  clear hF4 hw6 hb5 hlane hdec
  rcases hS with hS | ⟨b, o, rfl, hlt, hr⟩
  · cases hS
  have hA := range_at6 hr 0 hi rfl
  rw [show o + 0 * 6 = o by omega] at hA
  obtain ⟨q0, q1, q2, q3, q4, q5⟩ := hA
  change w5.cell? ⟨b, o, none⟩ = some (.int .i64 1) at q0
  change w5.cell? ⟨b, o + 1, none⟩ = some (.int .i64 0) at q1
  change w5.cell? ⟨b, o + 2, none⟩ = some (.int .i64 1) at q2
  change w5.cell? ⟨b, o + 3, none⟩ = some (.int .u64 3) at q3
  change w5.cell? ⟨b, o + 4, none⟩ = some (.int .u64 4) at q4
  change w5.cell? ⟨b, o + 5, none⟩ = some (.string ⟨#[104, 105]⟩) at q5
  have c0 := cell_regrown q0
  have c1 := cell_regrown q1
  have c2 := cell_regrown q2
  have c3 := cell_regrown q3
  have c4 := cell_regrown q4
  have c5 := cell_regrown q5
  have p0 : ∀ d os, Calls Try.prog 26 #[] (grow (redrawn w5 d) os) fun e w'' => e = .returned (.agg #[.int .i64 1, .int .i64 0, .int .i64 1, .int .u64 3, .int .u64 4, .string ⟨#[104, 105]⟩]) ∧ ∃ p : Regrown, w'' = grow (redrawn w5 p.d) p.os := fun d os => Calls.regrown_of (some_ok _)
  have p1 : ∀ d os, Calls Try.prog 23 #[.agg #[.int .i64 1, .int .i64 0, .int .i64 1, .int .u64 3, .int .u64 4, .string ⟨#[104, 105]⟩]] (grow (redrawn w5 d) os) fun e w'' => e = .returned (.string hb) ∧ ∃ p : Regrown, w'' = grow (redrawn w5 p.d) p.os := fun d os => Calls.regrown_of (hbytes _)
  have p2 : ∀ d os, Calls Try.prog 16 #[.agg (frc hiFr), .int .i64 0] (grow (redrawn w5 d) os) fun e w'' => e = .returned (.slice none 0 0) ∧ ∃ p : Regrown, w'' = grow (redrawn w5 p.d) p.os := fun d os => Calls.regrown_of (hnone _)
  have hFr := hF5.regrown
  clear q0 q1 q2 q3 q4 q5 hF5 hbytes hnone hr
  go_wp2_with fail
  refine wp_region_quiet_below (by kernel_rfl) (by kernel_rfl) ?_
  repeat (first | (go_big_quiet_want; refine quiet_load rfl rfl hFr ?_; simp only [Act.put, List.setIfInBounds_toArray, List.set_cons_zero, List.set_cons_succ]; go_big_quiet_on) | go_big_quiet_step (first | with_reducible exact p0 _ _ | with_reducible exact p1 _ _ | with_reducible exact p2 _ _))
  refine wpQuiet_nil ?_
  intro _ hw'
  obtain ⟨⟨dq, osq⟩, hw''⟩ := hw'
  subst hw''
  go_wp2_with fail
  go_ret
  exact ⟨rfl, hw7.trans ((below_regrown w5 dq osq).mono hw7.size)⟩

end Go.Proofs.Ytdpghocgljnobaa
