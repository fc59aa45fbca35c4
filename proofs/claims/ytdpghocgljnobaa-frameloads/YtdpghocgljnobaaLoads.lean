/-
  What is put into a lane is what it has, the first two without the zero ones; the other lanes stay; put again it is the same: the law FrameLoads returns true for every input.
  No condition beyond the form's own.
-/
import Derived.Test.YtdpghocgljnobaaRows
import Derived.Test.YtdpghocgljnobaaFrFy
import Derived.Test.YtdpghocgljnobaaFrIn
import Derived.Test.YtdpghocgljnobaaFrEs
import Derived.WalkKit
import Derived.ProofKit
import Derived.OpenShut
import Derived.ShutString
import Derived.SizedLaws
import Derived.ChangeOld
import Derived.Below
namespace Go.Proofs.Ytdpghocgljnobaa.frameLoads
open Go.Sort Go.ChangeShapes Go.WideShapes Go.ChangeAt Go.RowKit
open Go.ChangeMaps (open_string shut_string)
set_option linter.unusedVariables false

theorem own : ownKnob Try.prog.godebug = none := by kernel_rfl
theorem length_bytes (s : ByteArray) : s.data.toList.length = s.size := by rw [Array.length_toList]; rfl

theorem frc_whole (F : Nat → En) : ((frc F).extract 0 (0 + (enCells (Fr.list F)).length)).toList = enCells (Fr.list F) := by
  have h : (frc F).toList = enCells (Fr.list F) := rfl
  rw [Nat.zero_add, Array.toList_extract, h]
  simp [List.extract]

theorem lane_part (F : Nat → En) (t : Nat) (ht : t < 3) : ((frc F).extract (t * 12) (t * 12 + (enCells [F (2 * t), F (2 * t + 1)]).length)).toList = enCells [F (2 * t), F (2 * t + 1)] := by
  obtain rfl | rfl | rfl : t = 0 ∨ t = 1 ∨ t = 2 := by omega
  all_goals kernel_rfl

theorem quiet_part {o : Oper} {a : Act} {C : World → Prop} {K : Act → Prop} {x : Operand} {B off : Nat} {D : Array Value} {T : TypeId} {cs : List Value} (ho : o.op = .load 25 x) (hx : a.eval x = .pointer (some ⟨B, off, none⟩)) (hcs : (D.extract off (off + cs.length)).toList = cs) (hl : cs.length = 12) (hC : ∀ w, C w → Blk B D T w)
    (h : K (a.put o.dst (.agg cs.toArray))) : o.quiet Try.prog a C K := by
  refine ⟨_, fun w hw => ?_, h⟩
  unfold Oper.quietAt execOp
  simp only [ho, hx, Instr.loadAt, Instr.sureAddr, Sem.run_bind, Sem.run_pure, Result.andThen_ok, run_loadVar_mid w B off 25 cs _ ((hC w hw).range off cs hcs) Try.underlying25 rfl (by rw [hl]; exact size25)]
  exact ⟨rfl, rfl⟩

theorem with_lane (F : Nat → En) (t : Nat) (L : List En) (j : Nat) (hj : j < 2) : withL F t L (2 * t + j) = L.getD j En.zero := by
  unfold withL
  rw [if_pos (by omega), show (2 * t + j) % 2 = j by omega]

theorem with_other (F : Nat → En) (t m : Nat) (L : List En) (h : ¬ m = t) (j : Nat) (hj : j < 2) : withL F t L (2 * m + j) = F (2 * m + j) := by
  unfold withL
  rw [if_neg (by omega)]

theorem with_again (F : Nat → En) (n : Int) (L : List En) : frc (withL (withL F n L) n L) = frc (withL F n L) := by
  apply frc_congr
  intro y _
  unfold withL
  split
  · rfl
  · rfl

theorem lane_rest (F : Nat → En) (t : Nat) (L : List En) (j : Nat) (hj : j ≤ 2) (h : j = 2 ∨ L.length ≤ j) : laneUp (withL F t L) t 2 = laneUp (withL F t L) t j := by
  have step : ∀ i, i < 2 → L.length ≤ i → laneUp (withL F t L) t (i + 1) = laneUp (withL F t L) t i := by
    intro i hi hl
    show laneUp (withL F t L) t i ++ _ = _
    rw [with_lane F t L i hi]
    have e : L.getD i En.zero = En.zero := by simp [List.getElem?_eq_none hl]
    rw [e, if_pos (by decide), List.append_nil]
  rcases h with rfl | h
  · rfl
  · obtain rfl | rfl | rfl : j = 0 ∨ j = 1 ∨ j = 2 := by omega
    · rw [step 1 (by omega) (by omega), step 0 (by omega) h]
    · rw [step 1 (by omega) h]
    · rfl

set_option maxHeartbeats 2000000 in
theorem walk_out (F : Nat → En) (n : Int) (hn : ¬ (0 ≤ n ∧ n < 3)) (la : Option Addr) (L : List En) (lc : Nat) (w : World) (hS : Sl la L w) : Calls Try.prog 7 #[.agg (frc F), .int .i64 n, .slice la L.length lc] w fun e w' => e = .returned (.bool true) ∧ Below w.heap.size w w' := by
  have hwith := frWith F n la L lc
  rw [withL_no F n L hn] at hwith
  have keq := eql_frame F
  have hF := blk_new w (frc F) 27
  have hb0 := below_box w (.cells (frc F) 27)
  have hS0 := hS.below hb0
  generalize L.length = ln at hwith ⊢
  by_cases hneg : n < 0
  all_goals
    have hbig : n < 0 ∨ 2 < n := by omega
    first | have hpos : 2 < n := by omega | skip
    go_enter Try.func7, Try.ntmps7
    go_wp2_with (first | refine alloc_fr rfl rfl ?_ | refine store_new rfl 27 _ _ rfl rfl rfl (by rw [frc_size]; exact size27) ((frc_size _).trans (frc_size _).symm) (frc_one _) ?_ | refine load_blk rfl 27 _ rfl hF rfl Try.underlying27 rfl (by rw [frc_size]; exact size27) ?_)
    refine (hwith _ hS0).mono ?_
    rintro r w1 ⟨rfl, hb1⟩
    have hF1 := (hF.below hb1).alloc (.cells (frc F) 27)
    have hG1 := blk_new w1 (frc F) 27
    have hw1 := hb0.trans (hb1.mono hb0.size)
    have hw2 := hw1.alloc hw1.size (.cells (frc F) 27)
    clear hb1 hF hw1 hwith hS0
    go_wp2_with (first | refine alloc_fr rfl rfl ?_ | refine store_new rfl 27 _ _ rfl rfl rfl (by rw [frc_size]; exact size27) ((frc_size _).trans (frc_size _).symm) (frc_one _) ?_ | refine load_blk rfl 27 _ rfl hF1 rfl Try.underlying27 rfl (by rw [frc_size]; exact size27) ?_)
    refine (fixed_any _).mono ?_
    rintro r w2 ⟨rfl, hb2⟩
    have hF2 := hF1.below hb2
    have hG2 := hG1.below hb2
    have hw3 := hw2.trans (hb2.mono hw2.size)
    clear hb2 hF1 hG1 hw2
    go_wp2_with fail
    refine (fixed_any _).mono ?_
    rintro r w3 ⟨rfl, hb3⟩
    have hF3 := hF2.below hb3
    have hG3 := hG2.below hb3
    have hw4 := hw3.trans (hb3.mono hw3.size)
    clear hb3 hF2 hG2 hw3
    go_wp2_with (first | refine load_want (by rfl) 27 _ rfl hF3 rfl Try.underlying27 rfl (by rw [frc_size]; exact size27) ?_ | refine load_want (by rfl) 27 _ rfl hG3 rfl Try.underlying27 rfl (by rw [frc_size]; exact size27) ?_)
    go_ret
    exact ⟨rfl, hw4⟩

set_option maxHeartbeats 2000000 in
theorem walk_in (F : Nat → En) (t : Nat) (ht : t < 3) (la : Option Addr) (L : List En) (lc : Nat) (lm : L.length ≤ maxLen) (w : World) (hS : Sl la L w) : Calls Try.prog 7 #[.agg (frc F), .int .i64 (t : Int), .slice la L.length lc] w fun e w' => e = .returned (.bool true) ∧ Below w.heap.size w w' := by
  obtain ⟨i24, z24, hi, hiz, his, hib, hzs⟩ := info24b
  have n0 : (0 : Int) ≤ (t : Int) := by omega
  have n3 : (t : Int) < 3 := by omega
  have n4 : ¬ (t : Int) < 0 := by omega
  have n5 : ¬ 2 < (t : Int) := by omega
  have hwith := frWith F t la L lc
  have hF := blk_new w (frc F) 27
  have hb0 := below_box w (.cells (frc F) 27)
  have hS0 := hS.below hb0
  go_enter Try.func7, Try.ntmps7
  go_wp2_with (first | refine alloc_fr rfl rfl ?_ | refine store_new rfl 27 _ _ rfl rfl rfl (by rw [frc_size]; exact size27) ((frc_size _).trans (frc_size _).symm) (frc_one _) ?_ | refine load_blk rfl 27 _ rfl hF rfl Try.underlying27 rfl (by rw [frc_size]; exact size27) ?_)
  refine (hwith _ hS0).mono ?_
  rintro r w1 ⟨rfl, hb1⟩
  have hF1 := (hF.below hb1).alloc (.cells (frc (withL F t L)) 27)
  have hG1 := blk_new w1 (frc (withL F t L)) 27
  have hw1 := hb0.trans (hb1.mono hb0.size)
  have hw2 := hw1.alloc hw1.size (.cells (frc (withL F t L)) 27)
  clear hb1 hF hw1 hwith hS0 hb0
  go_wp2_with (first | refine alloc_fr rfl rfl ?_ | refine store_new rfl 27 _ _ rfl rfl rfl (by rw [frc_size]; exact size27) ((frc_size _).trans (frc_size _).symm) (frc_one _) ?_ | refine load_blk rfl 27 _ rfl hF1 rfl Try.underlying27 rfl (by rw [frc_size]; exact size27) ?_)
  refine (fixed_any _).mono ?_
  rintro r w2 ⟨rfl, hb2⟩
  have hF2 := (hF1.below hb2).alloc (.cells #[] 24)
  have hG2 := (hG1.below hb2).alloc (.cells #[] 24)
  have hw3 := hw2.trans (hb2.mono hw2.size)
  have hw4 := hw3.alloc hw3.size (.cells #[] 24)
  have hE := blk_new w2 #[] 24
  have hsz1 : w.heap.size < w2.heap.size := (hF1.below hb2).lt
  have hsz2 : w1.heap.size < w2.heap.size := (hG1.below hb2).lt
  clear hb2 hF1 hG1 hw2 hw3
  go_wp2_with fail
  go_loopw [8, 9] (fun l i w' => ∃ j : Nat, j ≤ 2 ∧ j ≤ L.length ∧ i = .int .i64 j ∧ Below w.heap.size w w' ∧ Blk w.heap.size (frc F) 27 w' ∧ Blk w1.heap.size (frc (withL F t L)) 27 w' ∧ w2.heap.size ≤ w'.heap.size ∧ w'.ownsRow w2.heap.size 24 6 l (laneUp (withL F t L) t j).length (enCells (laneUp (withL F t L) t j))) (fun _ i _ => 2 - (intOf i).toNat)
  case atStart => exact ⟨0, by omega, by omega, rfl, hw4, hF2, hG2, by simp, rfl, .inr ⟨w2.heap.size, 0, #[], rfl, Nat.le_refl _, hE, Nat.le_refl _, Nat.zero_le _, rfl, rfl⟩⟩
  case round =>
    clear hw4 hF2 hG2 hE
    obtain ⟨j, hj, hjL, rfl, hb, hF, hG, hsz, hown⟩ := hrel
    by_cases hin : j < L.length ∧ j < 2
    · obtain ⟨hin1, hin2⟩ := hin
      have i0 : (0 : Int) ≤ (j : Int) := by omega
      have i1 : (j : Int) < (L.length : Int) := by omega
      have i2 : (j : Int) < 2 := by omega
      obtain ⟨e, he⟩ : ∃ e, L[j]? = some e := ⟨_, List.getElem?_eq_getElem hin1⟩
      have hup : laneUp (withL F t L) t (j + 1) = laneUp (withL F t L) t j ++ (if e.isZero then [] else [e]) := by
        show laneUp (withL F t L) t j ++ _ = _
        rw [with_lane F t L j hin2, show L.getD j En.zero = e by simp [he]]
      have hle := laneUp_le (withL F t L) t j
      rcases hS with rfl | ⟨b, o, rfl, hlt, hr⟩
      · simp at hin1
      have hA := range_at6 (w := wr) (fun x v hv => by rw [hb.cell (p := ⟨b, o + x, none⟩) hlt]; exact hr x v hv) j e he
      obtain ⟨q0, q1, q2, q3, q4, q5⟩ := hA
      have kne := neq_ent e.k e.sv e.g e.se e.n e.t 0 0 0 0 0 ⟨#[]⟩ e.isZero rfl
      generalize L.length = ln at *
      cases hz : e.isZero
      · rw [hz] at kne hup
        have hb1 := hb.alloc hb.size (.cells e.vals.toArray 24)
        have hF1 := hF.alloc (.cells e.vals.toArray 24)
        have hG1 := hG.alloc (.cells e.vals.toArray 24)
        have hown1 := own_below hown (below_box wr (.cells e.vals.toArray 24))
        have hnw := news_at wr e
        have hsz3 : w2.heap.size ≤ (wr.alloc (.cells e.vals.toArray 24)).heap.size := by simp; omega
        clear hb hown
        go_wp2_with (at_builtin; refine wpList_append_own _ rfl _ _ 36 rfl w2.heap.size 24 i24 z24 6 56 Try.underlying36 hi hiz his hib hzs (by decide) _ _ _ rfl hown1 ⟨wr.heap.size, 0, none⟩ 1 1 e.vals rfl rfl hnw e.vals_one ?_ ?_ ?_ ?_)
        · unfold maxLen; omega
        · omega
        · exact hsz3
        intro v' w5 hown2 hgrow _
        have hb2 := hb1.grown hgrow hb1.size (fun k hk => Nat.le_trans (Nat.le_of_lt hsz1) (hown1.lt k hk).1)
        have hsz4 := ((Below.refl 0 _).grown hgrow (Nat.zero_le _) (fun _ _ => Nat.zero_le _)).size
        have hsz5 := Nat.le_trans hsz3 hsz4
        have hF2 : Blk w.heap.size (frc F) 27 w5 := (hgrow.block w.heap.size hF1.lt (fun e => by have := (hown1.lt _ e.symm).1; omega)).trans hF1
        have hG2 : Blk w1.heap.size (frc (withL F t L)) 27 w5 := (hgrow.block w1.heap.size hG1.lt (fun e => by have := (hown1.lt _ e.symm).1; omega)).trans hG1
        have hcat : enCells (laneUp (withL F t L) t (j + 1)) = enCells (laneUp (withL F t L) t j) ++ e.vals := by rw [hup]; simp [enCells]
        have hln : (laneUp (withL F t L) t (j + 1)).length = (laneUp (withL F t L) t j).length + 1 := by rw [hup]; simp
        rw [← hcat, ← hln] at hown2
        clear hb1 hown1 hnw hgrow hcat hln hup hsz3 hsz4 q0 q1 q2 q3 q4 q5 hF1 hG1 hr
        go_wp2_with fail
        refine ⟨⟨j + 1, by omega, by omega, by go_num, hb2, hF2, hG2, hsz5, hown2⟩, by simp [intOf]; omega⟩
      · rw [hz] at kne hup
        have hup2 : laneUp (withL F t L) t (j + 1) = laneUp (withL F t L) t j := by rw [hup]; simp
        rw [← hup2] at hown
        clear hup hup2
        go_wp2_with fail
        refine ⟨⟨j + 1, by omega, by omega, by go_num, hb, hF, hG, hsz, hown⟩, by simp [intOf]; omega⟩
    · rw [← lane_rest F t L j hj (by omega)] at hown
      obtain ⟨_, a, c, rfl, hsl⟩ := own_sl hown
      clear hown hsz
      rcases (by omega : (¬ j < L.length) ∨ (j < L.length ∧ j = 2)) with h | ⟨h, rfl⟩
      · have i1 : ¬ (j : Int) < (L.length : Int) := by omega
        clear hin hj hjL h
        generalize wr = wq at *
        go_wp2_with fail
        go_loopw [10] (fun i w' => ∃ m : Nat, m ≤ 3 ∧ i = .int .i64 m ∧ Below wq.heap.size wq w') (fun i _ => 3 - (intOf i).toNat)
        case atStart => exact ⟨0, by omega, rfl, .refl _ _⟩
        case round =>
          obtain ⟨m, hm, rfl, hbm⟩ := hrel
          by_cases hm3 : m < 3
          · have m0 : (0 : Int) ≤ (m : Int) := by omega
            have m3 : (m : Int) < 3 := by omega
            have hFr := (hF.below hbm).regrown
            have hGr := (hG.below hbm).regrown
            have hl12 : (enCells [F (2 * m), F (2 * m + 1)]).length = 12 := by rw [enCells_length]; rfl
            by_cases hmt : m = t
            · have hne : ((m : Int) != (t : Int)) = false := by rw [hmt]; simp
              have hp1 := lane_part F m hm3
              have hp2 := hp1
              clear hF hG
              go_wp2_with fail
              refine wp_region_quiet_below (by kernel_rfl) (by kernel_rfl) ?_
              repeat (go_big_quiet_step (fail))
              refine wpQuiet_nil ?_
              intro _ hw'
              obtain ⟨⟨dq, osq⟩, hw''⟩ := hw'
              subst hw''
              have hb3 := hbm.trans ((below_regrown wr dq osq).mono hbm.size)
              generalize grow (redrawn wr dq) osq = w6 at hb3 ⊢
              go_wp2_with fail
              refine ⟨⟨m + 1, by omega, by go_num, hb3⟩, by simp [intOf]; omega⟩
            · have hne : ((m : Int) != (t : Int)) = true := by rw [bne_iff_ne]; omega
              have hp1 := lane_part F m hm3
              have hp2 := lane_part (withL F t L) m hm3
              rw [show withL F t L (2 * m) = F (2 * m) from with_other F t m L hmt 0 (by omega), show withL F t L (2 * m + 1) = F (2 * m + 1) from with_other F t m L hmt 1 (by omega)] at hp2
              have knl : ∀ w : World, (binOp .neq 25 (.agg (enCells [F (2 * m), F (2 * m + 1)]).toArray) (.agg (enCells [F (2 * m), F (2 * m + 1)]).toArray)).run Try.prog w = .ok (.bool false) w := neq_lane _ _
              clear hF hG
              go_wp2_with fail
              refine wp_region_quiet_below (by kernel_rfl) (by kernel_rfl) ?_
              repeat (first | (go_big_quiet_want; (first | refine quiet_part rfl rfl hp1 hl12 hFr ?_ | refine quiet_part rfl rfl hp2 hl12 hGr ?_); simp only [Act.put, List.setIfInBounds_toArray, List.set_cons_zero, List.set_cons_succ]; go_big_quiet_on) | go_big_quiet_step (fail))
              refine wpQuiet_nil ?_
              intro _ hw'
              obtain ⟨⟨dq, osq⟩, hw''⟩ := hw'
              subst hw''
              have hb3 := hbm.trans ((below_regrown wr dq osq).mono hbm.size)
              generalize grow (redrawn wr dq) osq = w6 at hb3 ⊢
              go_wp2_with fail
              refine ⟨⟨m + 1, by omega, by go_num, hb3⟩, by simp [intOf]; omega⟩
          · obtain rfl : m = 3 := by omega
            clear hm hm3
            have hu := Try.underlying27
            have hi27 : (Try.prog.info? 27).map (·.size) = some (enCells (Fr.list (withL F t L))).length := by rw [enCells_length]; exact size27
            have hGr := hG.below hbm
            have hslr := hsl.below hbm
            have hSr := (hS.below hb).below hbm
            have S0 : wr.rangeAt w1.heap.size 0 (enCells (Fr.list (withL F t L))) ∧ Below wr.heap.size wr wr := ⟨hGr.range 0 _ (frc_whole _), .refl _ _⟩
            have keep : ∀ w3 w4 : World, (w3.rangeAt w1.heap.size 0 (enCells (Fr.list (withL F t L))) ∧ Below wr.heap.size wr w3) → Below w3.heap.size w3 w4 → (w4.rangeAt w1.heap.size 0 (enCells (Fr.list (withL F t L))) ∧ Below wr.heap.size wr w4) := by
              rintro w3 w4 ⟨hr, hb3⟩ hb4
              refine ⟨fun j v hv => ?_, hb3.trans (hb4.mono hb3.size)⟩
              rw [hb4.cell (p := ⟨w1.heap.size, 0 + j, none⟩) (Nat.lt_of_lt_of_le hGr.lt hb3.size)]
              exact hr j v hv
            have hll : laneL (withL F t L) (t : Int) = laneUp (withL F t L) t 2 := by unfold laneL; rw [if_pos ⟨n0, n3⟩]; rfl
            have clane : ∀ w3 : World, (w3.rangeAt w1.heap.size 0 (enCells (Fr.list (withL F t L))) ∧ Below wr.heap.size wr w3) → Calls Try.prog 16 #[.agg (enCells (Fr.list (withL F t L))).toArray, .int .i64 (t : Int)] w3 fun r w4 => ∃ a c, r = .returned (.slice a (laneUp (withL F t L) t 2).length c) ∧ Sl a (laneUp (withL F t L) t 2) w4 ∧ (w4.rangeAt w1.heap.size 0 (enCells (Fr.list (withL F t L))) ∧ Below wr.heap.size wr w4) ∧ Below w3.heap.size w3 w4 := by
              intro w3 h
              have hx := frLane (withL F t L) (t : Int) w3
              rw [hll] at hx
              exact hx.mono fun _ w4 ⟨a, c, h1, hs, h2⟩ => ⟨a, c, h1, hs, keep w3 w4 h h2, h2⟩
            have cent : ∀ (a b : Option Addr) (c d : Nat) (w3 : World), (w3.rangeAt w1.heap.size 0 (enCells (Fr.list (withL F t L))) ∧ Below wr.heap.size wr w3) → Sl a (laneUp (withL F t L) t 2) w3 → Sl b (laneUp (withL F t L) t 2) w3 → Calls Try.prog 15 #[.slice a (laneUp (withL F t L) t 2).length c, .slice b (laneUp (withL F t L) t 2).length d] w3 fun r w4 => r = .returned (.bool true) ∧ (w4.rangeAt w1.heap.size 0 (enCells (Fr.list (withL F t L))) ∧ Below wr.heap.size wr w4) :=
              fun a b c d w3 h ha hb => (entries_same a b _ c d (by have := laneUp_le (withL F t L) t 2; omega) w3 ha hb).mono fun _ w4 ⟨h1, h2⟩ => ⟨h1, keep w3 w4 h h2⟩
            have cwith : ∀ w3 : World, (w3.rangeAt w1.heap.size 0 (enCells (Fr.list (withL F t L))) ∧ Below wr.heap.size wr w3) → Calls Try.prog 18 #[.agg (enCells (Fr.list (withL F t L))).toArray, .int .i64 (t : Int), .slice la L.length lc] w3 fun r w4 => r = .returned (.agg (frc (withL F t L))) ∧ (w4.rangeAt w1.heap.size 0 (enCells (Fr.list (withL F t L))) ∧ Below wr.heap.size wr w4) := by
              intro w3 h
              have hx := frWith (withL F t L) t la L lc w3 (hSr.below h.2)
              rw [with_again] at hx
              exact hx.mono fun _ w4 ⟨h1, h2⟩ => ⟨h1, keep w3 w4 h h2⟩
            have keq : ∀ w : World, (binOp .eql 27 (.agg (frc (withL F t L))) (.agg (enCells (Fr.list (withL F t L))).toArray)).run Try.prog w = .ok (.bool true) w := eql_frame (withL F t L)
            clear keep hGr hSr hll hF hG
            generalize (laneUp (withL F t L) t 2).length = kk at clane cent ⊢
            go_wp2_with fail
            refine wp_region_held_drew (S := fun w' => w'.rangeAt w1.heap.size 0 (enCells (Fr.list (withL F t L))) ∧ Below wr.heap.size wr w') (by kernel_rfl) ⟨(World.rangeAt_drew _ _ _ _).2 S0.1, S0.2.drew⟩ (fun hHeld => ?_)
            refine' wpAnyH_take (i := 0) (v := _) rfl (by kernel_rfl) (by kernel_rfl) (by kernel_rfl) (fun _ _ _ h => h) (yieldsIf_load_mid (by rfl) _ _ rfl _ _ rfl _ _ ?hS0 hu rfl hi27) hHeld ?rest0
            case hS0 => exact fun w h => h.1
            try simp only [List.getElem_toArray]
            try simp only [List.getElem_cons_succ]
            try simp only [List.getElem_cons_zero]
            try simp only [Act.put]
            try simp only [List.setIfInBounds_toArray]
            try simp only [List.set_cons_succ]
            try simp only [List.set_cons_zero]
            refine wpAnyH_take (i := 1) (v := ?v1) rfl (by kernel_rfl) (by kernel_rfl) (by kernel_rfl) (fun _ _ _ h => h) (Or.inl ⟨by rfl, ?hy1⟩) hHeld ?rest1
            case hy1 => (intro w hSw; clear hSw; go_simp; try with_reducible rfl)
            try simp only [List.getElem_toArray]
            try simp only [List.getElem_cons_succ]
            try simp only [List.getElem_cons_zero]
            try simp only [Act.put]
            try simp only [List.setIfInBounds_toArray]
            try simp only [List.set_cons_succ]
            try simp only [List.set_cons_zero]
            refine wpAnyH_take (i := 3) (v := ?v3) rfl (by kernel_rfl) (by kernel_rfl) (by kernel_rfl) (fun _ _ _ h => h) (Or.inl ⟨by rfl, ?hy3⟩) hHeld ?rest3
            case hy3 => (intro w hSw; clear hSw; go_simp; try with_reducible rfl)
            try simp only [List.getElem_toArray]
            try simp only [List.getElem_cons_succ]
            try simp only [List.getElem_cons_zero]
            try simp only [Act.put]
            try simp only [List.setIfInBounds_toArray]
            try simp only [List.set_cons_succ]
            try simp only [List.set_cons_zero]
            refine wpAnyH_ready (rs := [2]) (by kernel_rfl) (by simp) ?_
            refine AllReadyH.cons rfl (fun K hK => ?_) AllReadyH.nil
            go_simp
            go_wp2_with (refine (clane _ hHeld).mono ?_; rintro r w2 ⟨a1, c1, rfl, hs1, hS2, hb2⟩)
            refine hK.out _ _ hS2 (fun hHeld => ?_)
            clear hK K
            refine wpAnyH_ready (rs := [4]) (by kernel_rfl) (by simp) ?_
            refine AllReadyH.cons rfl (fun K hK => ?_) AllReadyH.nil
            go_simp
            go_wp2_with (refine (cent _ _ _ _ _ hHeld hs1 (hslr.below hHeld.2)).mono ?_; rintro r w4 ⟨rfl, hS4⟩)
            refine hK.out _ _ hS4 (fun hHeld => ?_)
            clear hK K
            refine wpAnyH_take (i := 5) (v := ?v5) rfl (by kernel_rfl) (by kernel_rfl) (by kernel_rfl) (fun _ _ _ h => h) (Or.inl ⟨by rfl, ?hy5⟩) hHeld ?rest5
            case hy5 => (intro w hSw; clear hSw; go_simp; try with_reducible rfl)
            try simp only [List.getElem_toArray]
            try simp only [List.getElem_cons_succ]
            try simp only [List.getElem_cons_zero]
            try simp only [Act.put]
            try simp only [List.setIfInBounds_toArray]
            try simp only [List.set_cons_succ]
            try simp only [List.set_cons_zero]
            refine' wpAnyH_take (i := 6) (v := _) rfl (by kernel_rfl) (by kernel_rfl) (by kernel_rfl) (fun _ _ _ h => h) (yieldsIf_load_mid (by rfl) _ _ rfl _ _ rfl _ _ ?hS6 hu rfl hi27) hHeld ?rest6
            case hS6 => exact fun w h => h.1
            try simp only [List.getElem_toArray]
            try simp only [List.getElem_cons_succ]
            try simp only [List.getElem_cons_zero]
            try simp only [Act.put]
            try simp only [List.setIfInBounds_toArray]
            try simp only [List.set_cons_succ]
            try simp only [List.set_cons_zero]
            refine wpAnyH_take (i := 7) (v := ?v7) rfl (by kernel_rfl) (by kernel_rfl) (by kernel_rfl) (fun _ _ _ h => h) (Or.inl ⟨by rfl, ?hy7⟩) hHeld ?rest7
            case hy7 => (intro w hSw; clear hSw; go_simp; try with_reducible rfl)
            try simp only [List.getElem_toArray]
            try simp only [List.getElem_cons_succ]
            try simp only [List.getElem_cons_zero]
            try simp only [Act.put]
            try simp only [List.setIfInBounds_toArray]
            try simp only [List.set_cons_succ]
            try simp only [List.set_cons_zero]
            refine wpAnyH_take (i := 8) (v := ?v8) rfl (by kernel_rfl) (by kernel_rfl) (by kernel_rfl) (fun _ _ _ h => h) (Or.inl ⟨by rfl, ?hy8⟩) hHeld ?rest8
            case hy8 => (intro w hSw; clear hSw; go_simp; try with_reducible rfl)
            try simp only [List.getElem_toArray]
            try simp only [List.getElem_cons_succ]
            try simp only [List.getElem_cons_zero]
            try simp only [Act.put]
            try simp only [List.setIfInBounds_toArray]
            try simp only [List.set_cons_succ]
            try simp only [List.set_cons_zero]
            refine' wpAnyH_take (i := 10) (v := _) rfl (by kernel_rfl) (by kernel_rfl) (by kernel_rfl) (fun _ _ _ h => h) (yieldsIf_load_mid (by rfl) _ _ rfl _ _ rfl _ _ ?hS10 hu rfl hi27) hHeld ?rest10
            case hS10 => exact fun w h => h.1
            try simp only [List.getElem_toArray]
            try simp only [List.getElem_cons_succ]
            try simp only [List.getElem_cons_zero]
            try simp only [Act.put]
            try simp only [List.setIfInBounds_toArray]
            try simp only [List.set_cons_succ]
            try simp only [List.set_cons_zero]
            refine wpAnyH_ready (rs := [9]) (by kernel_rfl) (by simp) ?_
            refine AllReadyH.cons rfl (fun K hK => ?_) AllReadyH.nil
            go_simp
            go_wp2_with (refine (cwith _ hHeld).mono ?_; rintro r w9 ⟨rfl, hS6⟩)
            refine hK.out _ _ hS6 (fun hHeld => ?_)
            clear hK K
            refine wpAnyH_take (i := 11) (v := ?v11) rfl (by kernel_rfl) (by kernel_rfl) (by kernel_rfl) (fun _ _ _ h => h) (Or.inl ⟨by rfl, ?hy11⟩) hHeld ?rest11
            case hy11 => (intro w hSw; clear hSw; go_simp; try with_reducible rfl)
            try simp only [List.getElem_toArray]
            try simp only [List.getElem_cons_succ]
            try simp only [List.getElem_cons_zero]
            try simp only [Act.put]
            try simp only [List.setIfInBounds_toArray]
            try simp only [List.set_cons_succ]
            try simp only [List.set_cons_zero]
            refine wpAnyH_take (i := 12) (v := ?v12) rfl (by kernel_rfl) (by kernel_rfl) (by kernel_rfl) (fun _ _ _ h => h) (Or.inl ⟨by rfl, ?hy12⟩) hHeld ?rest12
            case hy12 => (intro w hSw; clear hSw; go_simp; try with_reducible rfl)
            try simp only [List.getElem_toArray]
            try simp only [List.getElem_cons_succ]
            try simp only [List.getElem_cons_zero]
            try simp only [Act.put]
            try simp only [List.setIfInBounds_toArray]
            try simp only [List.set_cons_succ]
            try simp only [List.set_cons_zero]
            refine wpAnyH_take (i := 13) (v := ?v13) rfl (by kernel_rfl) (by kernel_rfl) (by kernel_rfl) (fun _ _ _ h => h) (Or.inl ⟨by rfl, ?hy13⟩) hHeld ?rest13
            case hy13 => (intro w hSw; clear hSw; go_simp; try with_reducible rfl)
            try simp only [List.getElem_toArray]
            try simp only [List.getElem_cons_succ]
            try simp only [List.getElem_cons_zero]
            try simp only [Act.put]
            try simp only [List.setIfInBounds_toArray]
            try simp only [List.set_cons_succ]
            try simp only [List.set_cons_zero]
            refine wpAnyH_done (by kernel_rfl) ?_ _
            have hfin := hb.trans ((hbm.trans (hHeld.2.mono hbm.size)).mono hb.size)
            clear hHeld hS2 hS4 hS6
            go_wp2_with fail
            go_ret
            exact ⟨rfl, hfin⟩
      · have i1 : (2 : Int) < (L.length : Int) := by omega
        clear hin hj hjL h
        generalize wr = wq at *
        go_wp2_with fail
        go_loopw [10] (fun i w' => ∃ m : Nat, m ≤ 3 ∧ i = .int .i64 m ∧ Below wq.heap.size wq w') (fun i _ => 3 - (intOf i).toNat)
        case atStart => exact ⟨0, by omega, rfl, .refl _ _⟩
        case round =>
          obtain ⟨m, hm, rfl, hbm⟩ := hrel
          by_cases hm3 : m < 3
          · have m0 : (0 : Int) ≤ (m : Int) := by omega
            have m3 : (m : Int) < 3 := by omega
            have hFr := (hF.below hbm).regrown
            have hGr := (hG.below hbm).regrown
            have hl12 : (enCells [F (2 * m), F (2 * m + 1)]).length = 12 := by rw [enCells_length]; rfl
            by_cases hmt : m = t
            · have hne : ((m : Int) != (t : Int)) = false := by rw [hmt]; simp
              have hp1 := lane_part F m hm3
              have hp2 := hp1
              clear hF hG
              go_wp2_with fail
              refine wp_region_quiet_below (by kernel_rfl) (by kernel_rfl) ?_
              repeat (go_big_quiet_step (fail))
              refine wpQuiet_nil ?_
              intro _ hw'
              obtain ⟨⟨dq, osq⟩, hw''⟩ := hw'
              subst hw''
              have hb3 := hbm.trans ((below_regrown wr dq osq).mono hbm.size)
              generalize grow (redrawn wr dq) osq = w6 at hb3 ⊢
              go_wp2_with fail
              refine ⟨⟨m + 1, by omega, by go_num, hb3⟩, by simp [intOf]; omega⟩
            · have hne : ((m : Int) != (t : Int)) = true := by rw [bne_iff_ne]; omega
              have hp1 := lane_part F m hm3
              have hp2 := lane_part (withL F t L) m hm3
              rw [show withL F t L (2 * m) = F (2 * m) from with_other F t m L hmt 0 (by omega), show withL F t L (2 * m + 1) = F (2 * m + 1) from with_other F t m L hmt 1 (by omega)] at hp2
              have knl : ∀ w : World, (binOp .neq 25 (.agg (enCells [F (2 * m), F (2 * m + 1)]).toArray) (.agg (enCells [F (2 * m), F (2 * m + 1)]).toArray)).run Try.prog w = .ok (.bool false) w := neq_lane _ _
              clear hF hG
              go_wp2_with fail
              refine wp_region_quiet_below (by kernel_rfl) (by kernel_rfl) ?_
              repeat (first | (go_big_quiet_want; (first | refine quiet_part rfl rfl hp1 hl12 hFr ?_ | refine quiet_part rfl rfl hp2 hl12 hGr ?_); simp only [Act.put, List.setIfInBounds_toArray, List.set_cons_zero, List.set_cons_succ]; go_big_quiet_on) | go_big_quiet_step (fail))
              refine wpQuiet_nil ?_
              intro _ hw'
              obtain ⟨⟨dq, osq⟩, hw''⟩ := hw'
              subst hw''
              have hb3 := hbm.trans ((below_regrown wr dq osq).mono hbm.size)
              generalize grow (redrawn wr dq) osq = w6 at hb3 ⊢
              go_wp2_with fail
              refine ⟨⟨m + 1, by omega, by go_num, hb3⟩, by simp [intOf]; omega⟩
          · obtain rfl : m = 3 := by omega
            clear hm hm3
            have hu := Try.underlying27
            have hi27 : (Try.prog.info? 27).map (·.size) = some (enCells (Fr.list (withL F t L))).length := by rw [enCells_length]; exact size27
            have hGr := hG.below hbm
            have hslr := hsl.below hbm
            have hSr := (hS.below hb).below hbm
            have S0 : wr.rangeAt w1.heap.size 0 (enCells (Fr.list (withL F t L))) ∧ Below wr.heap.size wr wr := ⟨hGr.range 0 _ (frc_whole _), .refl _ _⟩
            have keep : ∀ w3 w4 : World, (w3.rangeAt w1.heap.size 0 (enCells (Fr.list (withL F t L))) ∧ Below wr.heap.size wr w3) → Below w3.heap.size w3 w4 → (w4.rangeAt w1.heap.size 0 (enCells (Fr.list (withL F t L))) ∧ Below wr.heap.size wr w4) := by
              rintro w3 w4 ⟨hr, hb3⟩ hb4
              refine ⟨fun j v hv => ?_, hb3.trans (hb4.mono hb3.size)⟩
              rw [hb4.cell (p := ⟨w1.heap.size, 0 + j, none⟩) (Nat.lt_of_lt_of_le hGr.lt hb3.size)]
              exact hr j v hv
            have hll : laneL (withL F t L) (t : Int) = laneUp (withL F t L) t 2 := by unfold laneL; rw [if_pos ⟨n0, n3⟩]; rfl
            have clane : ∀ w3 : World, (w3.rangeAt w1.heap.size 0 (enCells (Fr.list (withL F t L))) ∧ Below wr.heap.size wr w3) → Calls Try.prog 16 #[.agg (enCells (Fr.list (withL F t L))).toArray, .int .i64 (t : Int)] w3 fun r w4 => ∃ a c, r = .returned (.slice a (laneUp (withL F t L) t 2).length c) ∧ Sl a (laneUp (withL F t L) t 2) w4 ∧ (w4.rangeAt w1.heap.size 0 (enCells (Fr.list (withL F t L))) ∧ Below wr.heap.size wr w4) ∧ Below w3.heap.size w3 w4 := by
              intro w3 h
              have hx := frLane (withL F t L) (t : Int) w3
              rw [hll] at hx
              exact hx.mono fun _ w4 ⟨a, c, h1, hs, h2⟩ => ⟨a, c, h1, hs, keep w3 w4 h h2, h2⟩
            have cent : ∀ (a b : Option Addr) (c d : Nat) (w3 : World), (w3.rangeAt w1.heap.size 0 (enCells (Fr.list (withL F t L))) ∧ Below wr.heap.size wr w3) → Sl a (laneUp (withL F t L) t 2) w3 → Sl b (laneUp (withL F t L) t 2) w3 → Calls Try.prog 15 #[.slice a (laneUp (withL F t L) t 2).length c, .slice b (laneUp (withL F t L) t 2).length d] w3 fun r w4 => r = .returned (.bool true) ∧ (w4.rangeAt w1.heap.size 0 (enCells (Fr.list (withL F t L))) ∧ Below wr.heap.size wr w4) :=
              fun a b c d w3 h ha hb => (entries_same a b _ c d (by have := laneUp_le (withL F t L) t 2; omega) w3 ha hb).mono fun _ w4 ⟨h1, h2⟩ => ⟨h1, keep w3 w4 h h2⟩
            have cwith : ∀ w3 : World, (w3.rangeAt w1.heap.size 0 (enCells (Fr.list (withL F t L))) ∧ Below wr.heap.size wr w3) → Calls Try.prog 18 #[.agg (enCells (Fr.list (withL F t L))).toArray, .int .i64 (t : Int), .slice la L.length lc] w3 fun r w4 => r = .returned (.agg (frc (withL F t L))) ∧ (w4.rangeAt w1.heap.size 0 (enCells (Fr.list (withL F t L))) ∧ Below wr.heap.size wr w4) := by
              intro w3 h
              have hx := frWith (withL F t L) t la L lc w3 (hSr.below h.2)
              rw [with_again] at hx
              exact hx.mono fun _ w4 ⟨h1, h2⟩ => ⟨h1, keep w3 w4 h h2⟩
            have keq : ∀ w : World, (binOp .eql 27 (.agg (frc (withL F t L))) (.agg (enCells (Fr.list (withL F t L))).toArray)).run Try.prog w = .ok (.bool true) w := eql_frame (withL F t L)
            clear keep hGr hSr hll hF hG
            generalize (laneUp (withL F t L) t 2).length = kk at clane cent ⊢
            go_wp2_with fail
            refine wp_region_held_drew (S := fun w' => w'.rangeAt w1.heap.size 0 (enCells (Fr.list (withL F t L))) ∧ Below wr.heap.size wr w') (by kernel_rfl) ⟨(World.rangeAt_drew _ _ _ _).2 S0.1, S0.2.drew⟩ (fun hHeld => ?_)
            refine' wpAnyH_take (i := 0) (v := _) rfl (by kernel_rfl) (by kernel_rfl) (by kernel_rfl) (fun _ _ _ h => h) (yieldsIf_load_mid (by rfl) _ _ rfl _ _ rfl _ _ ?hS0b hu rfl hi27) hHeld ?rest0b
            case hS0b => exact fun w h => h.1
            try simp only [List.getElem_toArray]
            try simp only [List.getElem_cons_succ]
            try simp only [List.getElem_cons_zero]
            try simp only [Act.put]
            try simp only [List.setIfInBounds_toArray]
            try simp only [List.set_cons_succ]
            try simp only [List.set_cons_zero]
            refine wpAnyH_take (i := 1) (v := ?v1b) rfl (by kernel_rfl) (by kernel_rfl) (by kernel_rfl) (fun _ _ _ h => h) (Or.inl ⟨by rfl, ?hy1b⟩) hHeld ?rest1b
            case hy1b => (intro w hSw; clear hSw; go_simp; try with_reducible rfl)
            try simp only [List.getElem_toArray]
            try simp only [List.getElem_cons_succ]
            try simp only [List.getElem_cons_zero]
            try simp only [Act.put]
            try simp only [List.setIfInBounds_toArray]
            try simp only [List.set_cons_succ]
            try simp only [List.set_cons_zero]
            refine wpAnyH_take (i := 3) (v := ?v3b) rfl (by kernel_rfl) (by kernel_rfl) (by kernel_rfl) (fun _ _ _ h => h) (Or.inl ⟨by rfl, ?hy3b⟩) hHeld ?rest3b
            case hy3b => (intro w hSw; clear hSw; go_simp; try with_reducible rfl)
            try simp only [List.getElem_toArray]
            try simp only [List.getElem_cons_succ]
            try simp only [List.getElem_cons_zero]
            try simp only [Act.put]
            try simp only [List.setIfInBounds_toArray]
            try simp only [List.set_cons_succ]
            try simp only [List.set_cons_zero]
            refine wpAnyH_ready (rs := [2]) (by kernel_rfl) (by simp) ?_
            refine AllReadyH.cons rfl (fun K hK => ?_) AllReadyH.nil
            go_simp
            go_wp2_with (refine (clane _ hHeld).mono ?_; rintro r w2 ⟨a1, c1, rfl, hs1, hS2, hb2⟩)
            refine hK.out _ _ hS2 (fun hHeld => ?_)
            clear hK K
            refine wpAnyH_ready (rs := [4]) (by kernel_rfl) (by simp) ?_
            refine AllReadyH.cons rfl (fun K hK => ?_) AllReadyH.nil
            go_simp
            go_wp2_with (refine (cent _ _ _ _ _ hHeld hs1 (hslr.below hHeld.2)).mono ?_; rintro r w4 ⟨rfl, hS4⟩)
            refine hK.out _ _ hS4 (fun hHeld => ?_)
            clear hK K
            refine wpAnyH_take (i := 5) (v := ?v5b) rfl (by kernel_rfl) (by kernel_rfl) (by kernel_rfl) (fun _ _ _ h => h) (Or.inl ⟨by rfl, ?hy5b⟩) hHeld ?rest5b
            case hy5b => (intro w hSw; clear hSw; go_simp; try with_reducible rfl)
            try simp only [List.getElem_toArray]
            try simp only [List.getElem_cons_succ]
            try simp only [List.getElem_cons_zero]
            try simp only [Act.put]
            try simp only [List.setIfInBounds_toArray]
            try simp only [List.set_cons_succ]
            try simp only [List.set_cons_zero]
            refine' wpAnyH_take (i := 6) (v := _) rfl (by kernel_rfl) (by kernel_rfl) (by kernel_rfl) (fun _ _ _ h => h) (yieldsIf_load_mid (by rfl) _ _ rfl _ _ rfl _ _ ?hS6b hu rfl hi27) hHeld ?rest6b
            case hS6b => exact fun w h => h.1
            try simp only [List.getElem_toArray]
            try simp only [List.getElem_cons_succ]
            try simp only [List.getElem_cons_zero]
            try simp only [Act.put]
            try simp only [List.setIfInBounds_toArray]
            try simp only [List.set_cons_succ]
            try simp only [List.set_cons_zero]
            refine wpAnyH_take (i := 7) (v := ?v7b) rfl (by kernel_rfl) (by kernel_rfl) (by kernel_rfl) (fun _ _ _ h => h) (Or.inl ⟨by rfl, ?hy7b⟩) hHeld ?rest7b
            case hy7b => (intro w hSw; clear hSw; go_simp; try with_reducible rfl)
            try simp only [List.getElem_toArray]
            try simp only [List.getElem_cons_succ]
            try simp only [List.getElem_cons_zero]
            try simp only [Act.put]
            try simp only [List.setIfInBounds_toArray]
            try simp only [List.set_cons_succ]
            try simp only [List.set_cons_zero]
            refine wpAnyH_take (i := 8) (v := ?v8b) rfl (by kernel_rfl) (by kernel_rfl) (by kernel_rfl) (fun _ _ _ h => h) (Or.inl ⟨by rfl, ?hy8b⟩) hHeld ?rest8b
            case hy8b => (intro w hSw; clear hSw; go_simp; try with_reducible rfl)
            try simp only [List.getElem_toArray]
            try simp only [List.getElem_cons_succ]
            try simp only [List.getElem_cons_zero]
            try simp only [Act.put]
            try simp only [List.setIfInBounds_toArray]
            try simp only [List.set_cons_succ]
            try simp only [List.set_cons_zero]
            refine' wpAnyH_take (i := 10) (v := _) rfl (by kernel_rfl) (by kernel_rfl) (by kernel_rfl) (fun _ _ _ h => h) (yieldsIf_load_mid (by rfl) _ _ rfl _ _ rfl _ _ ?hS10b hu rfl hi27) hHeld ?rest10b
            case hS10b => exact fun w h => h.1
            try simp only [List.getElem_toArray]
            try simp only [List.getElem_cons_succ]
            try simp only [List.getElem_cons_zero]
            try simp only [Act.put]
            try simp only [List.setIfInBounds_toArray]
            try simp only [List.set_cons_succ]
            try simp only [List.set_cons_zero]
            refine wpAnyH_ready (rs := [9]) (by kernel_rfl) (by simp) ?_
            refine AllReadyH.cons rfl (fun K hK => ?_) AllReadyH.nil
            go_simp
            go_wp2_with (refine (cwith _ hHeld).mono ?_; rintro r w9 ⟨rfl, hS6⟩)
            refine hK.out _ _ hS6 (fun hHeld => ?_)
            clear hK K
            refine wpAnyH_take (i := 11) (v := ?v11b) rfl (by kernel_rfl) (by kernel_rfl) (by kernel_rfl) (fun _ _ _ h => h) (Or.inl ⟨by rfl, ?hy11b⟩) hHeld ?rest11b
            case hy11b => (intro w hSw; clear hSw; go_simp; try with_reducible rfl)
            try simp only [List.getElem_toArray]
            try simp only [List.getElem_cons_succ]
            try simp only [List.getElem_cons_zero]
            try simp only [Act.put]
            try simp only [List.setIfInBounds_toArray]
            try simp only [List.set_cons_succ]
            try simp only [List.set_cons_zero]
            refine wpAnyH_take (i := 12) (v := ?v12b) rfl (by kernel_rfl) (by kernel_rfl) (by kernel_rfl) (fun _ _ _ h => h) (Or.inl ⟨by rfl, ?hy12b⟩) hHeld ?rest12b
            case hy12b => (intro w hSw; clear hSw; go_simp; try with_reducible rfl)
            try simp only [List.getElem_toArray]
            try simp only [List.getElem_cons_succ]
            try simp only [List.getElem_cons_zero]
            try simp only [Act.put]
            try simp only [List.setIfInBounds_toArray]
            try simp only [List.set_cons_succ]
            try simp only [List.set_cons_zero]
            refine wpAnyH_take (i := 13) (v := ?v13b) rfl (by kernel_rfl) (by kernel_rfl) (by kernel_rfl) (fun _ _ _ h => h) (Or.inl ⟨by rfl, ?hy13b⟩) hHeld ?rest13b
            case hy13b => (intro w hSw; clear hSw; go_simp; try with_reducible rfl)
            try simp only [List.getElem_toArray]
            try simp only [List.getElem_cons_succ]
            try simp only [List.getElem_cons_zero]
            try simp only [Act.put]
            try simp only [List.setIfInBounds_toArray]
            try simp only [List.set_cons_succ]
            try simp only [List.set_cons_zero]
            refine wpAnyH_done (by kernel_rfl) ?_ _
            have hfin := hb.trans ((hbm.trans (hHeld.2.mono hbm.size)).mono hb.size)
            clear hHeld hS2 hS4 hS6
            go_wp2_with fail
            go_ret
            exact ⟨rfl, hfin⟩


theorem walk (F : Nat → En) (n : Int) (_hn : (Lit.int .i64 n).wf = true) (la : Option Addr) (L : List En) (lc : Nat) (lm : L.length ≤ maxLen) (w : World) (hS : Sl la L w) : Calls Try.prog 7 #[.agg (frc F), .int .i64 n, .slice la L.length lc] w fun e w' => e = .returned (.bool true) ∧ Below w.heap.size w w' := by
  by_cases hn : 0 ≤ n ∧ n < 3
  · obtain ⟨t, rfl⟩ : ∃ t : Nat, n = (t : Int) := ⟨n.toNat, by omega⟩
    exact walk_in F t (by omega) la L lc lm w hS
  · exact walk_out F n hn la L lc w hS

set_option maxRecDepth 100000 in
theorem lifted (os : Os) (started : os.Started) (H : Type) (enc : TypeId × Value → H) :
    ReturnsInHanded {} Try.checked os 7 .any (Rows.frameLoadsSpec.pre6 enc Try.prog Try.f7 Rows.frameLoadsRow.domain false) (Rows.frameLoadsSpec.post enc Try.prog Try.f7 false true false false) := by
  refine returnsInHanded_of_change_sized (C := Try.checked) own started (by kernel_rfl) Try.func7
    (ChangeSpec.witness6 (enc := enc) (C := Try.checked) false ⟨#[], #[.agg #[.int .i64 0, .int .i64 0, .int .i64 0, .int .u64 0, .int .u64 0, .string ByteArray.empty, .int .i64 0, .int .i64 0, .int .i64 0, .int .u64 0, .int .u64 0, .string ByteArray.empty, .int .i64 0, .int .i64 0, .int .i64 0, .int .u64 0, .int .u64 0, .string ByteArray.empty, .int .i64 0, .int .i64 0, .int .i64 0, .int .u64 0, .int .u64 0, .string ByteArray.empty, .int .i64 0, .int .i64 0, .int .i64 0, .int .u64 0, .int .u64 0, .string ByteArray.empty, .int .i64 0, .int .i64 0, .int .i64 0, .int .u64 0, .int .u64 0, .string ByteArray.empty], .int .i64 0, .slice none 0 0], []⟩ 8 (by kernel_rfl) (by kernel_rfl) (by kernel_rfl) (by kernel_rfl)) ?_
  intro W base args ds gs before hval0 hW hcnd hsz0 _
  have hval : ∀ (j : Nat) t v, Try.f7.params[j]? = some t → args[j]? = some v → Value.okWide Try.prog W .any base t v := hval0
  have hsz : (DataW.weightsEach Try.prog (Try.f7.params.toList ++ Rows.frameLoadsSpec.plain.varTypes Try.prog) (ds ++ gs)).all (· ≤ reachBytes) = true := hsz0
  have hW' := hW
  obtain ⟨p, q, hA0, hV, rfl, hfz, hnd⟩ := hW
  have hA : DataW.TrodAll enc Try.prog W 0 (fun _ => true) true Try.f7.params.toList args.toList ds p := hA0
  rw [Try.params7] at hA hval hsz

  obtain ⟨v0, vs0, d0, ds0, p0, q0, hargs, rfl, rfl, h0, r0⟩ := trodAll_cons hA
  obtain ⟨v1, vs1, d1, ds1, p1, q1, rfl, rfl, rfl, h1, r1⟩ := trodAll_cons r0
  obtain ⟨v2, vs2, d2, ds2, p2, q2, rfl, rfl, rfl, h2, r2⟩ := trodAll_cons r1
  obtain ⟨rfl, rfl, rfl⟩ := trodAll_nil r2
  obtain rfl : args = #[v0, v1, v2] := by cases args; simp_all
  obtain ⟨rfl, rfl⟩ := trodVars_none hV
  obtain ⟨F0, rfl⟩ := open_frame (by obtain ⟨cs, h1, _⟩ := (by simpa only [Value.okWide, Try.underlying27] using hval 0 27 v0 rfl rfl : ∃ cs, v0 = .agg cs ∧ _); exact ⟨cs, h1⟩) h0
  obtain ⟨a1, rfl, rfl, rfl, w1⟩ := open_int Try.underlying3 (hval 1 3 v1 rfl rfl) h1
  obtain ⟨la2, L2, lc2, rfl, lm2, hS2⟩ := open_list (okWide_slice Try.underlying36 (hval 2 36 v2 rfl rfl)) h2
  have hA2 := hA0
  clear hA0 hval0 hsz0
  simp only [List.append_nil] at hW'
  refine (walk F0 a1 w1 la2 L2 lc2 lm2 W hS2).mono fun e W' ⟨he, bel⟩ => ?_
  subst he
  exact ⟨_, rfl, _, _, _, [], _, [], hW', trodAll_mk1 (shut_bool Try.underlying4 _), (stays_all laidOut bel (by kernel_rfl) hA2), rfl, bel.frame _, fun h => by cases h⟩

theorem over : Rows.frameLoadsRow.holds Try.pinned (OpenSpec.ofChange Rows.frameLoadsSpec) :=
  OpenClaim.holds_of_wide 7 Try.f7 rfl rfl rfl rfl rfl rfl rfl ⟨rfl, rfl, rfl, rfl, rfl⟩ rfl rfl rfl rfl rfl (by kernel_rfl) Try.func7 (by kernel_rfl)
    (of_decide_eq_true (by kernel_rfl)) (by unfold Func.isWrapper; first | (rw [if_pos (by decide +kernel)]; kernel_rfl) | (rw [if_neg (by decide +kernel)]; exact ⟨rfl, rfl⟩))
    (fun os started H enc _ => lifted os started H enc)

end Go.Proofs.Ytdpghocgljnobaa.frameLoads
namespace Go.Proofs.Ytdpghocgljnobaa

theorem frameLoads_holds : Rows.FrameLoadsSaid := frameLoads.over
#print axioms frameLoads_holds

end Go.Proofs.Ytdpghocgljnobaa
